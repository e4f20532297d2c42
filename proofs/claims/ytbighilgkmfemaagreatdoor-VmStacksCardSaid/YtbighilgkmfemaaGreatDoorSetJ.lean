/- What the laws of this stage lean on, part 10: DictCodeE, VmWords, VmFirstM, VmUse, VmCodeN, VmFacts. -/
import Derived.Test.YtbighilgkmfemaaGreatDoorSetI
import Derived.ArgAppend
import Derived.Test.YtbighilgkmfemaaGreatDoorSetH
import Derived.Test.YtbighilgkmfemaaGreatDoorSetE
import Derived.Test.YtbighilgkmfemaaGreatDoorSetF
import Derived.Test.YtbighilgkmfemaaGreatDoorSetG

/- Contracts of dict's Same, Add, Flag, Cut. -/
namespace Go.Proofs.YtbighilgkmfemaaGreatDoor
open Go.RowKit
set_option linter.unusedVariables false
set_option linter.unusedSimpArgs false

set_option maxRecDepth 100000 in
set_option maxHeartbeats 4000000 in
theorem wequal_any (A A' : Option Addr) (n c n' c' : Nat) (a b : List Wr) (w : World) (h : Wds w (.slice A n c) a) (h' : Wds w (.slice A' n' c') b) (ha : a.length ≤ 100000) :
    Calls Tryz.prog 102 #[.slice A n c, .slice A' n' c'] w fun e w' => e = .returned (.bool (dSame a b)) ∧ Below w.heap.size w w' := by
  have ea := h.len
  have eb := h'.len
  subst ea eb
  by_cases hl : a.length = b.length
  · by_cases h0 : a.length = 0
    · have e1 : a = [] := List.eq_nil_of_length_eq_zero h0
      have e2 : b = [] := List.eq_nil_of_length_eq_zero (by omega)
      subst e1 e2
      have H : Hid (dSame [] [] = true) := by show _ = _; rfl
      rw [H.out]
      clear h h' hl h0 ha
      go_enter Tryz.func102, Tryz.ntmps102
      go_wp2_with fail
      refine wp_loop_rounds 1 ?_
      iterate 1 (rw [rounds_succ]; go_wp2_with fail)
      go_ret
      exact ⟨rfl, Below.refl _ _⟩
    · obtain ⟨g, o, hA, _⟩ := wds_cell h (k := 0) (by omega)
      obtain ⟨g', o', hA', _⟩ := wds_cell h' (k := 0) (by omega)
      subst hA hA'
      exact wequal_some g o _ c g' o' _ c' a b w h h' (by omega) (by omega)
  · have H : Hid (dSame a b = false) := by show _ = _; unfold dSame; simp; intro e; rw [e] at hl; exact hl rfl
    rw [H.out]
    have hl' : ((a.length : Int) != (b.length : Int)) = true := by simp; omega
    have hl2 : ((a.length : Int) == (b.length : Int)) = false := by simp; omega
    have hl3 : ¬ (a.length : Int) = (b.length : Int) := by omega
    clear h h' hl ha
    go_enter Tryz.func102, Tryz.ntmps102
    go_wp2_with fail
    go_ret
    exact ⟨rfl, Below.refl _ _⟩
set_option maxRecDepth 100000 in
set_option maxHeartbeats 4000000 in
theorem dsame_any (A A' : Option Addr) (n c n' c' : Nat) (a b : List Wr) (w : World) (h : Wds w (.slice A n c) a) (h' : Wds w (.slice A' n' c') b) (ha : a.length ≤ 100000) :
    Calls Tryz.prog 63 #[.slice A n c, .slice A' n' c'] w fun e w' => e = .returned (.bool (dSame a b)) ∧ Below w.heap.size w w' := by
  have HC := Lib.hid (wequal_any A A' n c n' c' a b w h h' ha)
  clear h h' ha
  go_enter Tryz.func63, Tryz.ntmps63
  go_wp2_with fail
  refine HC.out.mono ?_
  rintro e1 w5 ⟨rfl, b5⟩
  have HB := Lib.hid b5
  clear b5
  go_wp2_with fail
  go_ret
  exact ⟨rfl, HB.out⟩

/-- append of a word to a row that came in and has no room: it always makes a row of its own. -/
theorem wpList_wgrow {ops : Array Oper} {rest : List Oper} {o : Oper} {a : Act} {Q : Exit → Act → World → Prop} {w : World} (hgd : o.guard = none) (s x : Operand)
    (ho : o.op = .call { callee := .builtin .append, args := #[s, x], argTypes := #[30, 30] })
    (A : Option Addr) (n c : Nat) (l : List Wr) (hs : a.eval s = .slice A n n) (hy : Wds w (.slice A n c) l)
    (g : Nat) (z : List Wr) (hx : a.eval x = .slice (some ⟨g, 0, none⟩) 1 1) (hz : Wds w (.slice (some ⟨g, 0, none⟩) 1 1) z) (hn : n ≤ 100000)
    (h : ∀ v' w', WOwns w' w.heap.size v' (n + 1) (l ++ z) → Below w.heap.size w w' → wpList Tryz.prog ops Q rest (a.put o.dst v') w') : wpList Tryz.prog ops Q (o :: rest) a w := by
  obtain ⟨i0, hi, hz0, hz1, hz2⟩ := info_parts info_word
  have hl := hy.len
  have hzl := hz.len
  have hli := hy.lies
  have hlz := hz.lies
  refine wpList_append_grows w hgd s x _ ho 66 i0 (.agg #[.string ⟨#[]⟩, .int .i64 0, .int .i64 0]) 3 32 Tryz.underlying30 hi hz0 hz1 hz2 rfl (by decide) A n n (wds l) hs ?_ (by rw [wds_len, hl]) ?_ ⟨g, 0, none⟩ 1 1 (wds z) hx (by rw [wds_len, hzl]) ?_ (wds_one z) (by omega) (by unfold maxLen; omega) (by omega) fun v' w' h1 h2 => h v' w' ?_ ?_
  · intro e
    subst e
    rcases hli with hli | ⟨_, _, e, _⟩
    · have := congrArg List.length hli
      rw [wds_len] at this
      have h0 : l.length * 3 = 0 := this
      omega
    · cases e
  · intro b hb j u hu
    rcases hli with hli | ⟨g2, o2, e, _, hc⟩
    · rw [hli] at hu; simp at hu
    · rw [hb] at e
      replace e := Option.some.inj e
      rw [e, add_at]
      exact hc j u hu
  · intro j u hu
    rcases hlz with hli | ⟨g2, o2, e, _, hc⟩
    · rw [hli] at hu; simp at hu
    · replace e := Option.some.inj e
      rw [e, add_at]
      exact hc j u hu
  · have e := wds_app l z
    unfold WOwns
    rw [e]
    exact h1
  · exact (Below.refl _ w).grown h2 (Nat.le_refl _) (fun k hk => by cases hk)

/-- 's[:n:n]' of a row of n words. -/
def wfullAt (A : Option Addr) (n : Nat) : Option Addr := if n = 0 then A else A.map (·.add (0 * 3))
theorem Wds.full {w : World} {A : Option Addr} {n c : Nat} {l : List Wr} (h : Wds w (.slice A n c) l) : Wds w (.slice (wfullAt A n) n n) l := by
  have hl := h.len
  subst hl
  obtain ⟨A', c', e, h1, h2, h4⟩ := h
  injection e with e1 e2 e3
  subst e1 e3
  refine ⟨_, _, rfl, Nat.le_refl _, by omega, ?_⟩
  rcases h4 with h4 | ⟨g, o, rfl, hg, hc⟩
  · exact .inl h4
  · unfold wfullAt
    split
    · exact .inr ⟨g, o, rfl, hg, hc⟩
    · exact .inr ⟨g, o, by simp [add_at], hg, hc⟩
theorem Wds.room {w : World} {A : Option Addr} {n c : Nat} {l : List Wr} (h : Wds w (.slice A n c) l) : n ≤ c := by
  have hl := h.len
  obtain ⟨A', c', e, h1, _⟩ := h
  injection e with e1 e2 e3
  omega
theorem run_wfull {A : Option Addr} {n c : Nat} (w : World) (hc : n ≤ c) :
    (Instr.slice 30 (.slice A n c) none (some (.int .i64 (n : Int))) (some (.int .i64 (n : Int)))).run Tryz.prog w = .ok (.slice (wfullAt A n) n n) w := by
  have hz : (sizeOf 66).run Tryz.prog w = .ok 3 w := by kernel_rfl
  simp [Instr.slice, run_underlying Tryz.underlying30, Instr.sliceBounds, run_sliceBound, hc, hz, wfullAt]
set_option maxHeartbeats 1000000 in
theorem clip_any (A : Option Addr) (n c : Nat) (w : World) (hc : n ≤ c) : Calls Tryz.prog 119 #[.slice A n c] w fun e w' => e = .returned (.slice (wfullAt A n) n n) ∧ w = w' := by
  have q : ∀ w : World, _ := fun w => run_wfull (A := A) w hc
  go_enter Tryz.func119, Tryz.ntmps119
  go_wp2_with fail
  go_ret
  exact ⟨rfl, rfl⟩

set_option maxRecDepth 100000 in
set_option maxHeartbeats 4000000 in
theorem addcode_any (l : List Wr) (nm : List UInt8) (fl lim : Int) (w : World) (hn : l.length ≤ 100000) : Calls Tryz.prog 117 #[.string (strB nm), .int .i64 fl, .int .i64 (l.length : Int), .int .i64 lim] w fun e w' => e = .returned (.int .i64 (addC l nm fl lim)) ∧ Below w.heap.size w w' := by
  have HN := Lib.hid (fun w => namecode_any nm w)
  have HF := Lib.hid (fun w => areflags_any fl w)
  obtain ⟨z, ez⟩ : ∃ z, namedC nm = z := ⟨_, rfl⟩
  rw [ez] at HN
  by_cases hz : z = 0
  · subst hz
    cases hf : flagB fl with
    | true =>
      rw [hf] at HF
      by_cases hr : (l.length : Int) < lim ∧ l.length < 1024
      · have H2 : Hid (addC l nm fl lim = 0) := by show _ = _; unfold addC roomB; rw [ez, hf]; simp [hr]
        have r1 : decide (lim ≤ (l.length : Int)) = false := by simp; omega
        have r2 : decide ((1024 : Int) ≤ (l.length : Int)) = false := by simp; omega
        rw [H2.out]
        clear ez hf hr
        go_enter Tryz.func117, Tryz.ntmps117
        go_wp2_with fail
        refine (HN.out _).mono ?_
        rintro e1 w1 ⟨rfl, b1⟩
        have HB := Lib.hid b1
        clear b1
        go_wp2_with fail
        refine (HF.out _).mono ?_
        rintro e1 w6 ⟨rfl, rfl⟩
        go_wp2_with fail
        go_ret
        exact ⟨rfl, HB.out⟩
      · have H2 : Hid (addC l nm fl lim = -8) := by show _ = _; unfold addC roomB; rw [ez, hf, show decide ((l.length : Int) < lim ∧ l.length < 1024) = false by simpa using hr]; simp
        rw [H2.out]
        by_cases r1 : lim ≤ (l.length : Int)
        · clear ez hf hr
          go_enter Tryz.func117, Tryz.ntmps117
          go_wp2_with fail
          refine (HN.out _).mono ?_
          rintro e1 w1 ⟨rfl, b1⟩
          have HB := Lib.hid b1
          clear b1
          go_wp2_with fail
          refine (HF.out _).mono ?_
          rintro e1 w6 ⟨rfl, rfl⟩
          go_wp2_with fail
          go_ret
          exact ⟨rfl, HB.out⟩
        · have r1' : decide (lim ≤ (l.length : Int)) = false := by simp; omega
          have r2 : (1024 : Int) ≤ (l.length : Int) := by omega
          clear ez hf hr r1
          go_enter Tryz.func117, Tryz.ntmps117
          go_wp2_with fail
          refine (HN.out _).mono ?_
          rintro e1 w1 ⟨rfl, b1⟩
          have HB := Lib.hid b1
          clear b1
          go_wp2_with fail
          refine (HF.out _).mono ?_
          rintro e1 w6 ⟨rfl, rfl⟩
          go_wp2_with fail
          go_ret
          exact ⟨rfl, HB.out⟩
    | false =>
      rw [hf] at HF
      have H2 : Hid (addC l nm fl lim = -24) := by show _ = _; unfold addC; rw [ez, hf]; simp
      rw [H2.out]
      clear ez hf
      go_enter Tryz.func117, Tryz.ntmps117
      go_wp2_with fail
      refine (HN.out _).mono ?_
      rintro e1 w1 ⟨rfl, b1⟩
      have HB := Lib.hid b1
      clear b1
      go_wp2_with fail
      refine (HF.out _).mono ?_
      rintro e1 w6 ⟨rfl, rfl⟩
      go_wp2_with fail
      go_ret
      exact ⟨rfl, HB.out⟩
  · have H2 : Hid (addC l nm fl lim = z) := by show _ = _; unfold addC; rw [ez, if_pos hz]
    have hz1 : ((z : Int) != 0) = true := by simpa using hz
    have hz2 : ((z : Int) == 0) = false := by simpa using hz
    rw [H2.out]
    clear ez hz
    go_enter Tryz.func117, Tryz.ntmps117
    go_wp2_with fail
    refine (HN.out _).mono ?_
    rintro e1 w1 ⟨rfl, b1⟩
    have HB := Lib.hid b1
    clear b1
    go_wp2_with fail
    go_ret
    exact ⟨rfl, HB.out⟩

set_option maxRecDepth 100000 in
set_option maxHeartbeats 4000000 in
theorem dadd_any (A : Option Addr) (n c : Nat) (l : List Wr) (nm : List UInt8) (xt fl lim : Int) (w : World) (h : Wds w (.slice A n c) l) (hn : n ≤ 100000) : Calls Tryz.prog 88 #[.slice A n c, .string (strB nm), .int .i64 xt, .int .i64 fl, .int .i64 lim] w (DictOut (addL l nm xt fl lim) (addC l nm fl lim) w) := by
  have hl := h.len
  subst hl
  have HA := Lib.hid h
  have HC := Lib.hid (addcode_any l nm fl lim w hn)
  have HR := Lib.hid (fun w => clip_any A l.length c w h.room)
  have hadd : addL l nm xt fl lim = if addC l nm fl lim = 0 then l ++ [⟨nm, xt, fl⟩] else l := rfl
  obtain ⟨z, ez⟩ : ∃ z, addC l nm fl lim = z := ⟨_, rfl⟩
  rw [ez] at HC hadd ⊢
  rw [hadd]
  clear hadd ez
  unfold DictOut
  by_cases hz : z = 0
  · subst hz
    rw [if_pos rfl]
    clear h
    go_enter Tryz.func88, Tryz.ntmps88
    go_wp2_with fail
    refine HC.out.mono ?_
    rintro e1 w1 ⟨rfl, b1⟩
    have HB := Lib.hid b1
    have HA1 := Lib.hid (HA.out.keep b1)
    clear b1
    go_wp2_with fail
    refine (HR.out _).mono ?_
    rintro e1 w6 ⟨rfl, rfl⟩
    go_wp2_with (at_builtin; refine wpList_wgrow rfl _ _ rfl (wfullAt A l.length) l.length l.length l rfl (HA1.out.full.keep (al_one _ _)) w1.heap.size [⟨nm, xt, fl⟩] rfl (wds_newone w1 ⟨nm, xt, fl⟩) hn ?_; intro v2 w4 ho hb2; obtain ⟨A9, n9, c9, rfl⟩ := wds_slice ho.wds; have O4 := Lib.hid ho.wds; have B4 := Lib.hid (below_then (alloc_then HB.out) hb2); clear ho hb2)
    go_ret2
    exact ⟨A9, n9, c9, rfl, O4.out, B4.out⟩
  · have hz1 : ((z : Int) != 0) = true := by simpa using hz
    have hz2 : ((z : Int) == 0) = false := by simpa using hz
    rw [if_neg hz]
    clear h hz
    go_enter Tryz.func88, Tryz.ntmps88
    go_wp2_with fail
    refine HC.out.mono ?_
    rintro e1 w1 ⟨rfl, b1⟩
    have HB := Lib.hid b1
    have HA1 := Lib.hid (HA.out.keep b1)
    clear b1
    go_wp2_with fail
    refine (wclone_any A l.length c l w1 HA1.out hn).mono ?_
    rintro e1 w6 ⟨v, rfl, ho, b6⟩
    obtain ⟨A9, n9, c9, rfl⟩ := wds_slice ho.wds
    have O4 := Lib.hid ho.wds
    have B4 := Lib.hid (below_then HB.out b6)
    clear ho b6
    go_wp2_with fail
    go_ret2
    exact ⟨A9, n9, c9, rfl, O4.out, B4.out⟩

end Go.Proofs.YtbighilgkmfemaaGreatDoor

/- Contracts of the program's flags and firstWords. -/
namespace Go.Proofs.YtbighilgkmfemaaGreatDoor
open Go.RowKit Go.Maps Go.WideMaps
set_option linter.unusedVariables false
set_option linter.unusedSimpArgs false

set_option maxRecDepth 100000 in
set_option maxHeartbeats 4000000 in
theorem flags_any (w : World) (HT : Tab w) : Calls Tryz.prog 86 #[] w fun e w' => ∃ b n D, e = .returned (.map (some b)) ∧ MapF w' b n D mapFlag ∧ Below w.heap.size w w' := by
  have hmm := @run_makeMap Tryz.prog
  have M1 := Lib.hid (mapf_made w)
  have k1 := al_one w (.map #[] 0)
  have T1 := Lib.hid (HT.keep k1)
  have B1 := Lib.hid k1
  clear k1 HT
  go_enter Tryz.func86, Tryz.ntmps86
  go_wp2_with fail
  refine (names_any _ T1.out).mono ?_
  rintro e w2 ⟨rfl, hs, bb⟩
  rw [World.size_alloc] at hs
  obtain ⟨b, hb⟩ : ∃ b, w.heap.size = b := ⟨_, rfl⟩
  have hB := Nat.le_of_eq hb
  have HBB := Lib.hid hB
  have M2 := Lib.hid (M1.out.kept bb)
  have T2 := Lib.hid (T1.out.keep bb)
  have B2 := Lib.hid (below_then B1.out bb)
  have HS := Lib.hid (sts_take hs (k := 12) (by decide))
  rw [hb] at M2
  rw [hb]
  clear bb hs M1 T1 B1 hb hB
  go_wp2_with fail
  refine (give_any b 0 (.map []) _ 6 _ 12 130 (primL.take 12) w2 M2 HS (by decide) (by decide) small_prim (by decide)).mono ?_
  rintro e w3 ⟨rfl, D3, m3, g3⟩
  have M3 := Lib.hid m3
  have T3 := Lib.hid (T2.out.grown M2.out g3)
  have B3 := Lib.hid (B2.out.grown g3 B2.out.size (fun j hj => by injection hj with hj; rw [← hj]; exact HBB.out))
  clear m3 g3 HS M2 T2 B2
  go_wp2_with fail
  refine (fields_any onlyT w3 (by decide) (by decide) T3.out onlyL only_fields).mono ?_
  rintro e w4 ⟨rfl, rfl⟩
  have k4 := al_one w3 (.cells (sts onlyL).toArray 9)
  have HS := Lib.hid (sts_block (l := onlyL) (one_newN w3 (sts onlyL).toArray 9) (by decide))
  have M4 := Lib.hid (M3.out.kept k4)
  have T4 := Lib.hid (T3.out.keep k4)
  have B4 := Lib.hid (below_then B3.out k4)
  generalize hW4 : w3.alloc (.cells (sts onlyL).toArray 9) = w4 at *
  clear k4 M3 T3 B3
  go_wp2_with fail
  refine (give_any b (0 + 12) D3 _ 4 _ 8 8 onlyL w4 M4 HS (by decide) (by decide) small_only (by decide)).mono ?_
  rintro e w5 ⟨rfl, D5, m5, g5⟩
  have M5 := Lib.hid m5
  have T5 := Lib.hid (T4.out.grown M4.out g5)
  have B5 := Lib.hid (B4.out.grown g5 B4.out.size (fun j hj => by injection hj with hj; rw [← hj]; exact HBB.out))
  clear m5 g5 HS M4 T4 B4
  go_wp2_with fail
  refine (fields_any bothT w5 (by decide) (by decide) T5.out bothL both_fields).mono ?_
  rintro e w6 ⟨rfl, rfl⟩
  have k6 := al_one w5 (.cells (sts bothL).toArray 9)
  have HS := Lib.hid (sts_block (l := bothL) (one_newN w5 (sts bothL).toArray 9) (by decide))
  have M6 := Lib.hid (M5.out.kept k6)
  have T6 := Lib.hid (T5.out.keep k6)
  have B6 := Lib.hid (below_then B5.out k6)
  generalize hW6 : w5.alloc (.cells (sts bothL).toArray 9) = w6 at *
  clear k6 M5 T5 B5
  go_wp2_with fail
  refine (give_any b ((0 + 12) + 8) D5 _ 5 _ 22 22 bothL w6 M6 HS (by decide) (by decide) small_both (by decide)).mono ?_
  rintro e w7 ⟨rfl, D7, m7, g7⟩
  have M7 := Lib.hid m7
  have T7 := Lib.hid (T6.out.grown M6.out g7)
  have B7 := Lib.hid (B6.out.grown g7 B6.out.size (fun j hj => by injection hj with hj; rw [← hj]; exact HBB.out))
  clear m7 g7 HS M6 T6 B6
  go_wp2_with fail
  refine (fields_any nowT w7 (by decide) (by decide) T7.out nowL now_fields).mono ?_
  rintro e w8 ⟨rfl, rfl⟩
  have k8 := al_one w7 (.cells (sts nowL).toArray 9)
  have HS := Lib.hid (sts_block (l := nowL) (one_newN w7 (sts nowL).toArray 9) (by decide))
  have M8 := Lib.hid (M7.out.kept k8)
  have T8 := Lib.hid (T7.out.keep k8)
  have B8 := Lib.hid (below_then B7.out k8)
  generalize hW8 : w7.alloc (.cells (sts nowL).toArray 9) = w8 at *
  clear k8 M7 T7 B7
  go_wp2_with fail
  refine (give_any b (((0 + 12) + 8) + 22) D7 _ 1 _ 4 4 nowL w8 M8 HS (by decide) (by decide) small_now (by decide)).mono ?_
  rintro e w9 ⟨rfl, D9, m9, g9⟩
  have M9 := Lib.hid m9
  have T9 := Lib.hid (T8.out.grown M8.out g9)
  have B9 := Lib.hid (B8.out.grown g9 B8.out.size (fun j hj => by injection hj with hj; rw [← hj]; exact HBB.out))
  clear m9 g9 HS M8 T8 B8
  go_wp2_with fail
  go_ret
  exact ⟨b, _, D9, rfl, M9.out, B9.out⟩
theorem named_all : ∀ i, i < 167 → namedC (nmN i) = 0 := by decide +kernel
theorem flag_all : ∀ i, i < 167 → flagB (flagF (nmN i) i) = true := by decide +kernel
theorem nm_small : ∀ i, i < 167 → (nmN i).length ≤ 65536 := by decide +kernel
theorem add_step {i : Nat} (hi : i < 167) {room : Int} (hr : 200 ≤ room) : addL (newW i) (nmN i) ((32 + 8 * i : Nat) : Int) (flagF (nmN i) i) room = newW (i + 1) := by
  have h1 := named_all i hi
  have h2 := flag_all i hi
  have h3 : roomB (newW i) room = true := by unfold roomB; rw [newW_len, decide_eq_true_eq]; omega
  have h0 : addC (newW i) (nmN i) (flagF (nmN i) i) room = 0 := by
    unfold addC
    rw [if_neg (by rw [h1]; simp), if_neg (by rw [h2]; simp), if_neg (by rw [h3]; simp)]
  unfold addL
  rw [if_pos h0, newW_succ]
  rfl
set_option maxRecDepth 100000 in
set_option maxHeartbeats 4000000 in
theorem firstwords_any (room : Int) (w : World) (HT : Tab w) (hr : 200 ≤ room) : Calls Tryz.prog 42 #[.int .i64 room] w fun e w' => ∃ A c, e = .returned (.slice A 167 c) ∧ Wds w' (.slice A 167 c) (newW 167) ∧ Below w.heap.size w w' := by
  have HR := Lib.hid hr
  clear hr
  go_enter Tryz.func42, Tryz.ntmps42
  go_wp2_with fail
  refine (flags_any w HT).mono ?_
  rintro e w1 ⟨b, n, D, rfl, hm, bb⟩
  have M1 := Lib.hid hm
  have T1 := Lib.hid (HT.keep bb)
  have B1 := Lib.hid bb
  clear hm bb HT
  go_wp2_with fail
  refine (names_any _ T1.out).mono ?_
  rintro e w2 ⟨rfl, hs, bb⟩
  have M2 := Lib.hid (M1.out.kept bb)
  have T2 := Lib.hid (T1.out.keep bb)
  have B2 := Lib.hid (below_then B1.out bb)
  obtain ⟨g1, hg1⟩ : ∃ g, w1.heap.size = g := ⟨_, rfl⟩
  rw [hg1] at hs
  rw [hg1]
  have S1 := Lib.hid hs
  clear bb hs hg1 M1 T1 B1
  go_wp2_with fail
  refine (specials_any _ T2.out).mono ?_
  rintro e w3 ⟨rfl, hs, bb⟩
  obtain ⟨g2, hg2⟩ : ∃ g, w2.heap.size = g := ⟨_, rfl⟩
  rw [hg2] at hs
  rw [hg2]
  have hp := pair_new w3 (.slice (some ⟨g1, 0, none⟩) 130 130) (.slice (some ⟨g2, 0, none⟩) 37 37) 45
  have k3 := al_one w3 (.cells #[.slice (some ⟨g1, 0, none⟩) 130 130, .slice (some ⟨g2, 0, none⟩) 37 37] 45)
  have HC := Lib.hid (scat_any _ _ _ _ _ _ primL specL w3.heap.size _ hp.1 hp.2 ((S1.out.keep bb).keep k3) (hs.keep k3) (by decide) (by decide))
  have M3 := Lib.hid ((M2.out.kept bb).kept k3)
  have B3 := Lib.hid (below_then (below_then B2.out bb) k3)
  clear bb hs hp k3 hg2 M2 T2 B2 S1
  go_wp2_with fail
  refine HC.out.mono ?_
  rintro e w4 ⟨v, rfl, ho, bb⟩
  have hs := ho.sts
  obtain ⟨A, c, rfl⟩ : ∃ A c, v = .slice A 167 c := by
    obtain ⟨A, c, e, _⟩ := hs
    exact ⟨A, c, e⟩
  have S4 : Hid (Sts w4 (.slice A 167 c) nmsL) := hs
  have M4 := Lib.hid (M3.out.kept bb)
  have B4 := Lib.hid (below_then B3.out bb)
  clear hs ho bb M3 B3 HC
  go_wp2_with fail
  go_loopw [3, 13] (fun s3 s13 wr => ∃ (i : Nat) (A1 : Option Addr) (c1 : Nat), s3 = .slice A1 i c1 ∧ s13 = .int .i64 (i : Int) ∧ i ≤ 167 ∧ Hid (Wds wr (.slice A1 i c1) (newW i)) ∧ Hid (Below w4.heap.size w4 wr)) (fun _ s13 _ => 167 - (intOf s13).toNat)
  case atStart => exact ⟨0, none, 0, rfl, rfl, Nat.zero_le _, Lib.hid ⟨none, 0, rfl, Nat.le_refl _, Nat.zero_le _, .inl rfl⟩, Lib.hid (Below.refl _ _)⟩
  case round =>
  obtain ⟨i, A1, c1, rfl, rfl, hi, HL, HW⟩ := hrel
  by_cases hi7 : i < 167
  · have hi7' : (i : Int) < 167 := by omega
    obtain ⟨g, o, hA, hc⟩ := sts_cell (S4.out.keep HW.out) (k := i) (by rw [all_len]; exact hi7)
    have hx := nm_at hi7
    rw [List.getElem?_eq_getElem (by rw [all_len]; exact hi7)] at hx
    injection hx with hx
    rw [hx] at hc
    subst hA
    have hp : Hid (∀ w, Calls Tryz.prog 89 #[.int .i64 (i : Int)] w fun e w' => e = .returned (.int .i64 ((32 + 8 * i : Nat) : Int)) ∧ w = w') := fun w => place_any i (by omega) w
    obtain ⟨QP, hQP⟩ : ∃ q, ((32 + 8 * i : Nat) : Int) = q := ⟨_, rfl⟩
    obtain ⟨FL, hFL⟩ : ∃ q, flagF (nmN i) i = q := ⟨_, rfl⟩
    obtain ⟨nm, hnm⟩ : ∃ q, nmN i = q := ⟨_, rfl⟩
    have HN : Hid (nm.length ≤ 65536) := by show _ ≤ _; rw [← hnm]; exact nm_small i hi7
    have HLK : Hid (∀ u, Below wr.heap.size wr u → (Instr.lookup 121 (.map (some b)) (.string (strB nm)) false).run Tryz.prog u = .ok (.int .i64 FL) u) := fun u hu => by
      have := ((M4.out.kept HW.out).kept hu).look HN.out
      rw [← hnm, flag_same i hi7, hFL] at this
      rw [← hnm]
      exact this
    have HADD : Hid (∀ u, Below wr.heap.size wr u → Calls Tryz.prog 88 #[.slice A1 i c1, .string (strB nm), .int .i64 QP, .int .i64 FL, .int .i64 room] u fun e w' => ∃ A c C, e = .returned (.tuple #[.slice A (i + 1) c, .int .i64 C]) ∧ Wds w' (.slice A (i + 1) c) (newW (i + 1)) ∧ Below u.heap.size u w') := fun u hu => by
      refine (dadd_any A1 i c1 (newW i) nm QP FL room u (HL.out.keep hu) (by omega)).mono ?_
      rintro e w' ⟨A, n, c, rfl, hw, bb⟩
      rw [← hnm, ← hQP, ← hFL, add_step hi7 HR.out] at hw
      have hl := hw.len
      rw [newW_len] at hl
      subst hl
      exact ⟨A, c, _, rfl, hw, bb⟩
    rw [hQP] at hp
    rw [hnm] at hc
    clear hx hQP hFL hnm
    go_upto_region 6 with fail
    refine wp_region_noPanic ?_
    refine wp_region_held_drew (S := fun a => Below wr.heap.size wr a) (by kernel_rfl) (drew_below _) (fun hHeld => ?_)
    (refine wpAnyH_take (i := 0) (oi := _) (v := ?v0) rfl (by kernel_rfl) (by kernel_rfl) (by kernel_rfl) (fun _ _ _ h => h) (Or.inl ⟨by kernel_rfl, ?y0⟩) (by assumption) ?r0; case y0 => (intro w hSw; (try dsimp only at hSw); go_simp; (try with_reducible rfl))); (try simp only [List.getElem_toArray, List.getElem_cons_succ, List.getElem_cons_zero, Act.put, List.setIfInBounds_toArray, List.set_cons_zero, List.set_cons_succ])
    (refine wpAnyH_take (i := 1) (oi := _) (v := ?v1) rfl (by kernel_rfl) (by kernel_rfl) (by kernel_rfl) (fun _ _ _ h => h) (Or.inl ⟨by kernel_rfl, ?y1⟩) (by assumption) ?r1; case y1 => (intro w hSw; (try dsimp only at hSw); go_simp; (try with_reducible rfl))); (try simp only [List.getElem_toArray, List.getElem_cons_succ, List.getElem_cons_zero, Act.put, List.setIfInBounds_toArray, List.set_cons_zero, List.set_cons_succ])
    (refine wpAnyH_take (i := 2) (oi := _) (v := ?v2) rfl (by kernel_rfl) (by kernel_rfl) (by kernel_rfl) (fun _ _ _ h => h) (Or.inl ⟨by kernel_rfl, ?y2⟩) (by assumption) ?r2; case y2 => (intro w hSw; (try dsimp only at hSw); go_simp; (try with_reducible rfl))); (try simp only [List.getElem_toArray, List.getElem_cons_succ, List.getElem_cons_zero, Act.put, List.setIfInBounds_toArray, List.set_cons_zero, List.set_cons_succ])
    (refine wpAnyH_take (i := 4) (oi := _) (v := ?v4) rfl (by kernel_rfl) (by kernel_rfl) (by kernel_rfl) (fun _ _ _ h => h) (Or.inl ⟨by kernel_rfl, ?y4⟩) (by assumption) ?r4; case y4 => (intro w hSw; (try dsimp only at hSw); go_simp; (try with_reducible rfl))); (try simp only [List.getElem_toArray, List.getElem_cons_succ, List.getElem_cons_zero, Act.put, List.setIfInBounds_toArray, List.set_cons_zero, List.set_cons_succ])
    (refine wpAnyH_take (i := 5) (oi := _) (v := ?v5) rfl (by kernel_rfl) (by kernel_rfl) (by kernel_rfl) (fun _ _ _ h => h) (Or.inl ⟨by kernel_rfl, ?y5⟩) (by assumption) ?r5; case y5 => (intro w hSw; (try dsimp only at hSw); go_simp; (try with_reducible rfl))); (try simp only [List.getElem_toArray, List.getElem_cons_succ, List.getElem_cons_zero, Act.put, List.setIfInBounds_toArray, List.set_cons_zero, List.set_cons_succ])
    (refine wpAnyH_take (i := 7) (oi := _) (v := ?v7) rfl (by kernel_rfl) (by kernel_rfl) (by kernel_rfl) (fun _ _ _ h => h) (Or.inl ⟨by kernel_rfl, ?y7⟩) (by assumption) ?r7; case y7 => (intro w hSw; (try dsimp only at hSw); go_simp; (try with_reducible rfl))); (try simp only [List.getElem_toArray, List.getElem_cons_succ, List.getElem_cons_zero, Act.put, List.setIfInBounds_toArray, List.set_cons_zero, List.set_cons_succ])
    (refine wpAnyH_take (i := 6) (oi := _) (v := ?v6) rfl (by kernel_rfl) (by kernel_rfl) (by kernel_rfl) (fun _ _ _ h => h) (Or.inl ⟨by kernel_rfl, ?y6⟩) (by assumption) ?r6; case y6 => (intro u hSu; have hl := HLK.out u hSu; go_simp; (try with_reducible rfl))); (try simp only [List.getElem_toArray, List.getElem_cons_succ, List.getElem_cons_zero, Act.put, List.setIfInBounds_toArray, List.set_cons_zero, List.set_cons_succ])
    refine wpAnyH_ready (rs := [3]) (by kernel_rfl) (by simp) ?_
    refine AllReadyH.cons (o := _) rfl (fun K hK => ?_) AllReadyH.nil
    go_simp
    refine (hp.out _).mono ?_
    rintro e w9 ⟨rfl, rfl⟩
    go_wp2_with fail
    refine hK.out _ _ hHeld (fun hHeld => ?_)
    clear hK K
    try try simp only [List.getElem_toArray, List.getElem_cons_succ, List.getElem_cons_zero, Act.put, List.setIfInBounds_toArray, List.set_cons_zero, List.set_cons_succ]
    refine wpAnyH_ready (rs := [8]) (by kernel_rfl) (by simp) ?_
    refine AllReadyH.cons (o := _) rfl (fun K hK => ?_) AllReadyH.nil
    go_simp
    refine (HADD.out _ hHeld).mono ?_
    rintro e w9 ⟨A2, c2, C, rfl, hw, b9⟩
    have b8 := below_then hHeld b9
    have HW9 := Lib.hid hw
    have HB9 := Lib.hid b8
    clear hw b9
    go_wp2_with fail
    refine hK.out _ _ b8 (fun hHeld => ?_)
    clear hK K
    try try simp only [List.getElem_toArray, List.getElem_cons_succ, List.getElem_cons_zero, Act.put, List.setIfInBounds_toArray, List.set_cons_zero, List.set_cons_succ]
    (refine wpAnyH_take (i := 9) (oi := _) (v := ?v9) rfl (by kernel_rfl) (by kernel_rfl) (by kernel_rfl) (fun _ _ _ h => h) (Or.inl ⟨by kernel_rfl, ?y9⟩) (by assumption) ?r9; case y9 => (intro w hSw; (try dsimp only at hSw); go_simp; (try with_reducible rfl))); (try simp only [List.getElem_toArray, List.getElem_cons_succ, List.getElem_cons_zero, Act.put, List.setIfInBounds_toArray, List.set_cons_zero, List.set_cons_succ])
    (refine wpAnyH_take (i := 10) (oi := _) (v := ?v10) rfl (by kernel_rfl) (by kernel_rfl) (by kernel_rfl) (fun _ _ _ h => h) (Or.inl ⟨by kernel_rfl, ?y10⟩) (by assumption) ?r10; case y10 => (intro w hSw; (try dsimp only at hSw); go_simp; (try with_reducible rfl))); (try simp only [List.getElem_toArray, List.getElem_cons_succ, List.getElem_cons_zero, Act.put, List.setIfInBounds_toArray, List.set_cons_zero, List.set_cons_succ])
    (refine wpAnyH_take (i := 11) (oi := _) (v := ?v11) rfl (by kernel_rfl) (by kernel_rfl) (by kernel_rfl) (fun _ _ _ h => h) (Or.inl ⟨by kernel_rfl, ?y11⟩) (by assumption) ?r11; case y11 => (intro w hSw; (try dsimp only at hSw); go_simp; (try with_reducible rfl))); (try simp only [List.getElem_toArray, List.getElem_cons_succ, List.getElem_cons_zero, Act.put, List.setIfInBounds_toArray, List.set_cons_zero, List.set_cons_succ])
    (refine wpAnyH_take (i := 12) (oi := _) (v := ?v12) rfl (by kernel_rfl) (by kernel_rfl) (by kernel_rfl) (fun _ _ _ h => h) (Or.inl ⟨by kernel_rfl, ?y12⟩) (by assumption) ?r12; case y12 => (intro w hSw; (try dsimp only at hSw); go_simp; (try with_reducible rfl))); (try simp only [List.getElem_toArray, List.getElem_cons_succ, List.getElem_cons_zero, Act.put, List.setIfInBounds_toArray, List.set_cons_zero, List.set_cons_succ])
    refine wpAnyH_done (by kernel_rfl) ?_ _
    refine NoPanic.normal ?_
    go_wp2_with fail
    go_roundw
    case rel => exact ⟨i + 1, A2, c2, rfl, by simp, by omega, HW9, Lib.hid (below_then HW.out HB9.out)⟩
    case measure => simp [intOf]; omega
  · obtain rfl : i = 167 := by omega
    clear hi7 hi
    go_wp2_with fail
    go_ret
    exact ⟨A1, c1, rfl, HL.out, below_then B4.out HW.out⟩
end Go.Proofs.YtbighilgkmfemaaGreatDoor

/- The contract of the program's firstMemory: a new machine's memory. -/
namespace Go.Proofs.YtbighilgkmfemaaGreatDoor
open Go.RowKit
set_option linter.unusedVariables false
set_option linter.unusedSimpArgs false

theorem new_yes {L : Nat} (h8 : 8 ≤ L) (h6 : L ≤ 65536) (hm : L % 8 = 0) : newF (L : Int) = (List.replicate L 0, []) := by
  have : newOk (L : Int) = true := by unfold newOk; rw [decide_eq_true_eq]; omega
  unfold newF
  rw [if_pos this, Int.toNat_natCast]
theorem text_whole : textF (rowN 1368 167, []) 0 1368 = rowN 1368 167 := by
  have hl := rowN_len 1368 167
  have h : okB (rowN 1368 167).length 0 1368 = true := by rw [hl]; decide
  unfold textF
  rw [if_pos h]
  rw [show (0 : Int).toNat = 0 from rfl, show (1368 : Int).toNat = 1368 from rfl, List.drop_zero, List.take_of_length_le (by rw [hl]; exact Nat.le_refl _)]
theorem write_whole {L : Nat} (hL : 1368 ≤ L) : (writeF (List.replicate L 0, []) 0 (rowN 1368 167)).1 = rowN L 167 := by
  have h : okB (List.replicate L (0 : UInt8)).length 0 ((rowN 1368 167).length : Nat) = true := by
    rw [rowN_len, List.length_replicate]
    unfold okB
    rw [decide_eq_true_eq]
    omega
  unfold writeF
  rw [if_pos ⟨h, by intro e; have := congrArg List.length e; rw [rowN_len] at this; cases this⟩]
  exact head_whole hL
set_option maxRecDepth 100000 in
set_option maxHeartbeats 4000000 in
theorem firstmem_any (L : Nat) (w : World) (h1 : 2048 ≤ L) (h6 : L ≤ 65536) (hm8 : L % 8 = 0) :
    Calls Tryz.prog 41 #[.int .i64 (L : Int)] w fun e w' => ∃ A c, e = .returned (.agg #[.slice A L c, .slice none 0 0]) ∧ IsMem w' (.agg #[.slice A L c, .slice none 0 0]) (rowN L 167, []) ∧ Below w.heap.size w w' := by
  have HNW := Lib.hid (new_yes (L := L) (by omega) h6 hm8)
  have HWW := Lib.hid (write_whole (L := L) (by omega))
  have H6 := Lib.hid h6
  clear h1 h6 hm8
  go_enter Tryz.func41, Tryz.ntmps41
  go_wp2_with fail
  refine (new_any (L : Int) _).mono ?_
  rintro e w1 ⟨A, L1, c, P, K, d, rfl, hm, bb⟩
  obtain ⟨w0, hw0⟩ : ∃ w0, w.alloc (.cells #[.slice none 0 0, .slice none 0 0] 27) = w0 := ⟨_, rfl⟩
  have hz : Box w0 w.heap.size (.slice none 0 0) (.slice none 0 0) 27 := by rw [← hw0]; exact box_new _ _ _ _
  have hB0 : Below w.heap.size w w0 := by rw [← hw0]; exact al_one _ _
  rw [hw0] at bb
  rw [HNW.out] at hm
  have e1 := hm.len1
  have e2 := hm.len2
  simp only [List.length_replicate, List.length_nil] at e1 e2
  subst e1 e2
  have HZ := Lib.hid (hz.keep bb)
  have HB := Lib.hid (below_then hB0 bb)
  have HM := Lib.hid hm
  clear hw0 hz hB0 bb hm
  go_upto_region 2 with fail
  obtain ⟨b, hb⟩ : ∃ b, w1.heap.size = b := ⟨_, rfl⟩
  obtain ⟨W, hW⟩ : ∃ W, w1.alloc (.cells #[.slice A L c, .slice P 0 d] 27) = W := ⟨_, rfl⟩
  have hX : Box W b (.slice A L c) (.slice P 0 d) 27 := by rw [← hW, ← hb]; exact box_new _ _ _ _
  have k1 : Below w1.heap.size w1 W := by rw [← hW]; exact al_one _ _
  have hbw : w.heap.size < b := by rw [← hb]; exact HZ.out.lt
  have HX := Lib.hid hX
  have HZ1 := Lib.hid (HZ.out.keep k1)
  have HB1 := Lib.hid (below_then HB.out k1)
  have HM1 := Lib.hid (HM.out.keep k1)
  have HBW := Lib.hid hbw
  rw [hb, hW]
  clear hb hW hX k1 hbw HZ HB HM
  go_wp2_with fail
  refine (head_any _).mono ?_
  rintro e w2 ⟨A2, L2, c2, rfl, hm, bb⟩
  have e1 := hm.len1
  simp only [rowN_len] at e1
  have HC := Lib.hid (text_at A2 none L2 c2 0 0 (rowN 1368 167, []) 0 1368 w2 hm (by omega) (by omega))
  rw [text_whole] at HC
  have HX2 := Lib.hid (HX.out.keep bb)
  have HZ2 := Lib.hid (HZ1.out.keep bb)
  have HB2 := Lib.hid (below_then HB1.out bb)
  have HM2 := Lib.hid (HM1.out.keep bb)
  clear hm bb HX HZ1 HB1 HM1 e1
  go_wp2_with fail
  refine HC.out.mono ?_
  rintro e w3 ⟨B, n, e3, rfl, hby, bb⟩
  have HX3 := Lib.hid (HX2.out.keep bb)
  have HZ3 := Lib.hid (HZ2.out.keep bb)
  have HB3 := Lib.hid (below_then HB2.out bb)
  have HM3 := Lib.hid (HM2.out.keep bb)
  have HC2 := Lib.hid (write_sl _ _ (List.replicate L 0, []) (rowN 1368 167) 0 w3 HM3.out hby (by simp; exact H6.out) (by simp) (by rw [rowN_len]; omega))
  clear hby bb HX2 HZ2 HB2 HM2 HC
  obtain ⟨p0, p1, p2, p3⟩ := HX3.out.use
  go_wp2_with fail
  refine HC2.out.mono ?_
  rintro e w4 ⟨A4, L4, c4, P4, K4, d4, rfl, hm, bb⟩
  have e4 := hm.byt.len
  rw [HWW.out, rowN_len] at e4
  subst e4
  have hx := HX3.out.keep bb
  have HB4 := Lib.hid (((below_then HB3.out bb).setCell (p := ⟨b, 0, none⟩) (Nat.le_of_lt HBW.out) (.slice A4 L c4)).setCell (p := ⟨b, 1, none⟩) (Nat.le_of_lt HBW.out) (.slice P4 K4 d4))
  have HX4 := Lib.hid (hx.put (.slice A4 L c4) (.slice P4 K4 d4))
  have hby := (hm.row hx (row_put w4 b (.slice A4 L c4) (.slice P4 K4 d4))).byt
  rw [HWW.out] at hby
  have HBY := Lib.hid hby
  have HZ4 : Hid (Box ((w4.setCell ⟨b, 0, none⟩ (.slice A4 L c4)).setCell ⟨b, 1, none⟩ (.slice P4 K4 d4)) w.heap.size (.slice none 0 0) (.slice none 0 0) 27) := by
    show Box _ _ _ _ _
    have := HZ3.out.keep bb
    unfold Box at this ⊢
    rw [Below.heap_setCell _ _ _ _ (by have := HBW.out; show w.heap.size ≠ b; omega), Below.heap_setCell _ _ _ _ (by have := HBW.out; show w.heap.size ≠ b; omega)]
    exact this
  clear p0 p1 p2 p3
  obtain ⟨p0, p1, p2, p3⟩ := hx.use
  obtain ⟨V, hV⟩ : ∃ V, (w4.setCell ⟨b, 0, none⟩ (.slice A4 L c4)).setCell ⟨b, 1, none⟩ (.slice P4 K4 d4) = V := ⟨_, rfl⟩
  rw [hV] at HB4 HX4 HBY HZ4
  clear hm bb hx hby
  go_upto_region 4 with fail
  clear p0 p1 p2 p3 hV
  obtain ⟨p0, p1, p2, p3⟩ := HX4.out.use
  go_wp2_with fail
  refine (free_at A4 P4 L c4 K4 d4 _).mono ?_
  rintro e w5 ⟨rfl, bb⟩
  have H5 := Lib.hid (HZ4.out.keep bb)
  have HM : Hid (IsMem w5 (.agg #[.slice A4 L c4, .slice none 0 0]) (rowN L 167, [])) := mem_mk (HBY.out.keep bb) (pats_nil _)
  have HB5 := Lib.hid (below_then HB4.out bb)
  clear p0 p1 p2 p3 bb
  obtain ⟨z0, z1, z2, z3⟩ := H5.out.use
  go_wp2_with fail
  refine bodyPost_ret (v := .agg #[.slice A4 L c4, .slice none 0 0]) ?_ rfl ?_
  · obtain ⟨r0, r1⟩ := H5.out.got (.slice A4 L c4) (.slice none 0 0)
    simp [results, Tryz.results41, go_sem, r0, r1]
  · exact ⟨A4, c4, rfl, HM.out.row H5.out (row_put _ _ _ _), (HB5.out.setCell (by simp) _).setCell (by simp) _⟩
end Go.Proofs.YtbighilgkmfemaaGreatDoor

/- What a call that answers a machine leaves, told of what the machine holds: the document's own. -/
namespace Go.Proofs.YtbighilgkmfemaaGreatDoor
open Go.RowKit
set_option linter.unusedVariables false
set_option linter.unusedSimpArgs false

/-- Two machines have the same numbers. -/
structure Sc (k j : VmK) : Prop where
  cm : k.cm = j.cm
  cd : k.cd = j.cd
  cr : k.cr = j.cr
  cw : k.cw = j.cw
  co : k.co = j.co
  here : k.here = j.here
  last : k.last = j.last
  qo : k.qo = j.qo
  free : k.free = j.free
  next : k.next = j.next
  arg : k.arg = j.arg
  self : k.self = j.self
  now : k.now = j.now
theorem Sc.refl (k : VmK) : Sc k k := ⟨rfl, rfl, rfl, rfl, rfl, rfl, rfl, rfl, rfl, rfl, rfl, rfl, rfl⟩
theorem Sc.symm {k j : VmK} (h : Sc k j) : Sc j k := ⟨h.cm.symm, h.cd.symm, h.cr.symm, h.cw.symm, h.co.symm, h.here.symm, h.last.symm, h.qo.symm, h.free.symm, h.next.symm, h.arg.symm, h.self.symm, h.now.symm⟩
theorem Sc.trans {k j i : VmK} (h : Sc k j) (g : Sc j i) : Sc k i := ⟨h.cm.trans g.cm, h.cd.trans g.cd, h.cr.trans g.cr, h.cw.trans g.cw, h.co.trans g.co, h.here.trans g.here, h.last.trans g.last, h.qo.trans g.qo, h.free.trans g.free, h.next.trans g.next, h.arg.trans g.arg, h.self.trans g.self, h.now.trans g.now⟩
/-- Two machines that hold the same are the same. -/
theorem same_self {k j : VmK} (h : Sc k j) (L : VmL) : vSame k L j L = true := by
  have h1 : confSame k j = true := by unfold confSame; rw [decide_eq_true_eq]; exact ⟨h.cm, h.cd, h.cr, h.cw, h.co⟩
  have h2 : numsSame k j = true := by unfold numsSame; rw [decide_eq_true_eq]; exact ⟨h.here, h.last, h.free, h.next, h.arg, h.self, h.now⟩
  unfold vSame
  rw [h1, h2, fm_self, rq_self, hn_self, h.qo]
  simp [sameB, dSame, pSame]
/-- What a call leaves that answers a machine and a code; and one that answers a number ahead of them. -/
def POut (k : VmK) (L : VmL) (C : Int) (w : World) (e : Ending) (w' : World) : Prop := ∃ j, e = .returned (.tuple #[vmV j, .int .i64 C]) ∧ IsVm w' j L ∧ Sc j k ∧ Below w.heap.size w w'
def QOut (n : Int) (k : VmK) (L : VmL) (C : Int) (w : World) (e : Ending) (w' : World) : Prop := ∃ j, e = .returned (.tuple #[.int .i64 n, vmV j, .int .i64 C]) ∧ IsVm w' j L ∧ Sc j k ∧ Below w.heap.size w w'
def pushV (k : VmK) (L : VmL) (x : Int) : VmL := { L with d := pushL L.d x k.cd }
def popV (L : VmL) : VmL := { L with d := popL L.d }
def rpushV (k : VmK) (L : VmL) (x : Int) : VmL := { L with r := pushL L.r x k.cr }
def rpopV (L : VmL) : VmL := { L with r := popL L.r }
def printV (k : VmK) (L : VmL) (s : List UInt8) : VmL := { L with o := printL L.o s k.co }
theorem rvpush_use (k : VmK) (L : VmL) (x : Int) (w : World) (hn : k.dn ≤ 65536) (h : IsVm w k L) :
    Calls Tryz.prog 27 #[vmV k, .int .i64 x] w (POut k (pushV k L x) (pushC L.d k.cd) w) := by
  refine (rvpush_any k L.d x w hn (Lib.hid h.d)).mono ?_
  rintro e w1 ⟨B, m, d, rfl, hr, b⟩
  have g := h.keep b
  exact ⟨_, rfl, ⟨g.m, hr, g.r, g.f, g.dict, g.o, g.q, g.e, g.h⟩, ⟨rfl, rfl, rfl, rfl, rfl, rfl, rfl, rfl, rfl, rfl, rfl, rfl, rfl⟩, b⟩
theorem rvpop_use (k : VmK) (L : VmL) (w : World) (hn : k.dn ≤ 65536) (h : IsVm w k L) :
    Calls Tryz.prog 29 #[vmV k] w (QOut (popX L.d) k (popV L) (popC L.d) w) := by
  refine (rvpop_any k L.d w hn (Lib.hid h.d)).mono ?_
  rintro e w1 ⟨B, m, d, rfl, hr, b⟩
  have g := h.keep b
  exact ⟨_, rfl, ⟨g.m, hr, g.r, g.f, g.dict, g.o, g.q, g.e, g.h⟩, ⟨rfl, rfl, rfl, rfl, rfl, rfl, rfl, rfl, rfl, rfl, rfl, rfl, rfl⟩, b⟩
theorem rvrpush_use (k : VmK) (L : VmL) (x : Int) (w : World) (hn : k.rn ≤ 65536) (h : IsVm w k L) :
    Calls Tryz.prog 31 #[vmV k, .int .i64 x] w (POut k (rpushV k L x) (rpushC L.r k.cr) w) := by
  refine (rvrpush_any k L.r x w hn (Lib.hid h.r)).mono ?_
  rintro e w1 ⟨B, m, d, rfl, hr, b⟩
  have g := h.keep b
  exact ⟨_, rfl, ⟨g.m, g.d, hr, g.f, g.dict, g.o, g.q, g.e, g.h⟩, ⟨rfl, rfl, rfl, rfl, rfl, rfl, rfl, rfl, rfl, rfl, rfl, rfl, rfl⟩, b⟩
theorem rvrpop_use (k : VmK) (L : VmL) (w : World) (hn : k.rn ≤ 65536) (h : IsVm w k L) :
    Calls Tryz.prog 33 #[vmV k] w (QOut (popX L.r) k (rpopV L) (rpopC L.r) w) := by
  refine (rvrpop_any k L.r w hn (Lib.hid h.r)).mono ?_
  rintro e w1 ⟨B, m, d, rfl, hr, b⟩
  have g := h.keep b
  exact ⟨_, rfl, ⟨g.m, g.d, hr, g.f, g.dict, g.o, g.q, g.e, g.h⟩, ⟨rfl, rfl, rfl, rfl, rfl, rfl, rfl, rfl, rfl, rfl, rfl, rfl, rfl⟩, b⟩
theorem rvprint_use (k : VmK) (L : VmL) (s : List UInt8) (w : World) (hn : k.on ≤ 65536) (h0 : 0 ≤ k.co) (h6 : k.co ≤ 65536) (hs : s.length ≤ 100000) (h : IsVm w k L) :
    Calls Tryz.prog 35 #[vmV k, .string (strB s)] w (POut k (printV k L s) (printC L.o s k.co) w) := by
  refine (rvprint_any k L.o s w hn h0 h6 hs (Lib.hid h.o)).mono ?_
  rintro e w1 ⟨B, m, d, rfl, hr, b⟩
  have g := h.keep b
  exact ⟨_, rfl, ⟨g.m, g.d, g.r, g.f, g.dict, hr, g.q, g.e, g.h⟩, ⟨rfl, rfl, rfl, rfl, rfl, rfl, rfl, rfl, rfl, rfl, rfl, rfl, rfl⟩, b⟩
end Go.Proofs.YtbighilgkmfemaaGreatDoor

/- The contract of the program's New. -/
namespace Go.Proofs.YtbighilgkmfemaaGreatDoor
open Go.RowKit
set_option linter.unusedVariables false
set_option linter.unusedSimpArgs false

theorem VBox.cell_is {w : World} {b : Nat} {k : VmK} (h : VBox w b k) {i : Nat} {v : Value} (hc : w.cell? ⟨b, i, none⟩ = some v) : v ∈ vmC k := by
  unfold VBox at h
  unfold World.cell? at hc
  rw [h] at hc
  exact Array.mem_of_getElem? hc
set_option maxRecDepth 100000 in
theorem VBox.no_u8 {w : World} {b : Nat} {k : VmK} (h : VBox w b k) {i : Nat} {x : Int} : w.cell? ⟨b, i, none⟩ ≠ some (.int .u8 x) := by
  intro hc
  have := h.cell_is hc
  simp at this
set_option maxRecDepth 100000 in
theorem VBox.no_str {w : World} {b : Nat} {k : VmK} (h : VBox w b k) {i : Nat} {x : ByteArray} : w.cell? ⟨b, i, none⟩ ≠ some (.string x) := by
  intro hc
  have := h.cell_is hc
  simp at this
theorem lies_row {w : World} {b : Nat} {A : Option Addr} {xs : List Value} (h : Lies w A xs) (cs : Array Value) (hb : ∀ i v, xs[0]? = some v → w.cell? ⟨b, i, none⟩ ≠ some v) : Lies (w.setRow b cs) A xs := by
  rcases h with h | ⟨g, o, e, hg, hc⟩
  · exact .inl h
  · cases hx : xs with
    | nil => exact .inl rfl
    | cons y ys =>
      right
      have h0 : xs[0]? = some y := by rw [hx]; rfl
      have hne : g ≠ b := by
        rintro rfl
        exact hb _ _ h0 (hc 0 y h0)
      refine ⟨g, o, e, by rw [size_setRow]; exact hg, fun j v hv => ?_⟩
      have := hc j v (by rw [hx]; exact hv)
      unfold World.cell? at this ⊢
      rw [setRow_other _ _ _ _ hne]
      exact this
theorem Byt.vrow {w : World} {b : Nat} {k : VmK} {v : Value} {l : List UInt8} (h : Byt w v l) (hb : VBox w b k) (cs : Array Value) : Byt (w.setRow b cs) v l := by
  obtain ⟨A, c, e, h1, h2, h3⟩ := h
  refine ⟨A, c, e, h1, h2, lies_row h3 cs fun i v hv => ?_⟩
  cases l with
  | nil => simp [u8s] at hv
  | cons x xs =>
    simp [u8s] at hv
    rw [← hv]
    exact hb.no_u8
theorem Wds.vrow {w : World} {b : Nat} {k : VmK} {v : Value} {l : List Wr} (h : Wds w v l) (hb : VBox w b k) (cs : Array Value) : Wds (w.setRow b cs) v l := by
  obtain ⟨A, c, e, h1, h2, h3⟩ := h
  refine ⟨A, c, e, h1, h2, lies_row h3 cs fun i v hv => ?_⟩
  cases l with
  | nil => simp [wds] at hv
  | cons x xs =>
    simp [wds, wcell] at hv
    rw [← hv]
    exact hb.no_str
/-- A new machine's letters. -/
def newJ (L : Nat) (d r v o : Int) (A1 : Option Addr) (c1 : Nat) (A2 : Option Addr) (c2 : Nat) : VmK := { vm0 with cm := (L : Int), cd := d, cr := r, cw := v, co := o, mA := A1, mn := L, mc := c1, here := 1368, wA := A2, wn := 167, wc := c2 }
/-- What New answers. -/
def NewOutJ (m d r v o : Int) (w : World) (e : Ending) (w' : World) : Prop :=
  (fitsB m d r v o = true → ∃ (L : Nat) (A1 : Option Addr) (c1 : Nat) (A2 : Option Addr) (c2 : Nat), m = (L : Int) ∧ e = .returned (.tuple #[vmV (newJ L d r v o A1 c1 A2 c2), .int .i64 0]) ∧ IsVm w' (newJ L d r v o A1 c1 A2 c2) (newL L)) ∧
  (fitsB m d r v o = false → e = .returned (.tuple #[vmV vm0, .int .i64 (-24)])) ∧ Below w.heap.size w w'
set_option maxRecDepth 100000 in
set_option maxHeartbeats 4000000 in
theorem new_no (m d r v o : Int) (w : World) (hfit : fitsB m d r v o = false) :
    Calls Tryz.prog 8 #[.agg #[.int .i64 m, .int .i64 d, .int .i64 r, .int .i64 v, .int .i64 o]] w fun e w' => e = .returned (.tuple #[vmV vm0, .int .i64 (-24)]) ∧ Below w.heap.size w w' := by
  have HF := Lib.hid (fits_any m d r v o)
  rw [hfit] at HF
  obtain ⟨k0, k1, k2⟩ := cv_new w m d r v o vm0 _ rfl
  have B0 := Lib.hid k0
  have X0 := Lib.hid k2
  clear k0 k1 k2 hfit
  go_enter Tryz.func8, Tryz.ntmps8
  go_wp2_with fail
  refine (HF.out _).mono ?_
  rintro e w1 ⟨rfl, bb⟩
  have B1 := Lib.hid (below_then B0.out bb)
  have X1 := Lib.hid (X0.out.keep bb)
  clear bb B0 X0 HF
  go_wp2_with (refine wpList_store_row rfl 36 _ _ rfl (w.heap.size + 1) (vmC vm0) rfl rfl _ _ X1.out (by kernel_rfl) rfl (vm_one _) ?_)
  refine bodyPost_ret (res_ct rfl _ _ _ _ rfl (vrow X1.out vm0)) rfl ?_
  exact ⟨rfl, below_setRow B1.out (by omega) _⟩
set_option maxRecDepth 100000 in
set_option maxHeartbeats 4000000 in
theorem new_yes2 (L : Nat) (d r v o : Int) (w : World) (HT : Tab w) (hfit : fitsB (L : Int) d r v o = true) :
    Calls Tryz.prog 8 #[.agg #[.int .i64 (L : Int), .int .i64 d, .int .i64 r, .int .i64 v, .int .i64 o]] w fun e w' => ∃ A1 c1 A2 c2, e = .returned (.tuple #[vmV (newJ L d r v o A1 c1 A2 c2), .int .i64 0]) ∧ IsVm w' (newJ L d r v o A1 c1 A2 c2) (newL L) ∧ Below w.heap.size w w' := by
  have hf := (fits_iff (L : Int) d r v o).1 hfit
  have HF := Lib.hid (fits_any (L : Int) d r v o)
  rw [hfit] at HF
  have HC1 : Hid (∀ u, Calls Tryz.prog 41 #[.int .i64 (L : Int)] u fun e w' => ∃ A c, e = .returned (.agg #[.slice A L c, .slice none 0 0]) ∧ IsMem w' (.agg #[.slice A L c, .slice none 0 0]) (rowN L 167, []) ∧ Below u.heap.size u w') := fun u => firstmem_any L u (by omega) (by omega) (by omega)
  have HC2 : Hid (∀ u, Tab u → Calls Tryz.prog 42 #[.int .i64 v] u fun e w' => ∃ A c, e = .returned (.slice A 167 c) ∧ Wds w' (.slice A 167 c) (newW 167) ∧ Below u.heap.size u w') := fun u hu => firstwords_any v u hu (by omega)
  obtain ⟨k0, k1, k2⟩ := cv_new w (L : Int) d r v o vm0 _ rfl
  have T0 := Lib.hid (HT.keep k0)
  have B0 := Lib.hid k0
  have C0 := Lib.hid k1
  have X0 := Lib.hid k2
  clear k0 k1 k2 hfit hf HT
  go_enter Tryz.func8, Tryz.ntmps8
  go_wp2_with fail
  refine (HF.out _).mono ?_
  rintro e w1 ⟨rfl, bb⟩
  have B1 := Lib.hid (below_then B0.out bb)
  have X1 := Lib.hid (X0.out.keep bb)
  have C1 := Lib.hid (C0.out.keep bb)
  have T1 := Lib.hid (T0.out.keep bb)
  clear bb B0 X0 C0 T0 HF
  go_upto_region 3 with fail
  have B2 : Hid (Below w.heap.size w w1.drew) := B1.out.drew
  have X2 : Hid (VBox w1.drew (w.heap.size + 1) vm0) := X1.out
  have C2 : Hid (CBox w1.drew w.heap.size (L : Int) d r v o) := C1.out
  have T2 : Hid (Tab w1.drew) := T1.out.keep (drew_below _)
  refine wp_region_noPanic ?_
  refine wp_region_held_drew (S := fun a => CBox a w.heap.size (L : Int) d r v o) (by kernel_rfl) ?_ (fun hHeld => ?_)
  · exact C2.out
  generalize World.drew _ = U at hHeld B2 X2 C2 T2 ⊢
  clear B1 X1 C1 T1 C2
  (refine wpAnyH_take (i := 1) (oi := _) (v := ?v1) rfl (by kernel_rfl) (by kernel_rfl) (by kernel_rfl) (fun _ _ _ h => h) (Or.inl ⟨by kernel_rfl, ?y1⟩) (by assumption) ?r1; case y1 => (intro u hSu; (obtain ⟨q0, q1, q2, q3, q4⟩ := hSu.use); go_simp; (try with_reducible rfl))); (try simp only [List.getElem_toArray, List.getElem_cons_succ, List.getElem_cons_zero, Act.put, List.setIfInBounds_toArray, List.set_cons_zero, List.set_cons_succ])
  (refine wpAnyH_take (i := 4) (oi := _) (v := ?v4) rfl (by kernel_rfl) (by kernel_rfl) (by kernel_rfl) (fun _ _ _ h => h) (Or.inl ⟨by kernel_rfl, ?y4⟩) (by assumption) ?r4; case y4 => (intro u hSu; (obtain ⟨q0, q1, q2, q3, q4⟩ := hSu.use); go_simp; (try with_reducible rfl))); (try simp only [List.getElem_toArray, List.getElem_cons_succ, List.getElem_cons_zero, Act.put, List.setIfInBounds_toArray, List.set_cons_zero, List.set_cons_succ])
  (refine wpAnyH_take (i := 0) (oi := _) (v := ?v0) rfl (by kernel_rfl) (by kernel_rfl) (by kernel_rfl) (fun _ _ _ h => h) (Or.inl ⟨by kernel_rfl, ?y0⟩) (by assumption) ?r0; case y0 => (intro u hSu; (obtain ⟨q0, q1, q2, q3, q4⟩ := hSu.use); go_simp; (try with_reducible rfl))); (try simp only [List.getElem_toArray, List.getElem_cons_succ, List.getElem_cons_zero, Act.put, List.setIfInBounds_toArray, List.set_cons_zero, List.set_cons_succ])
  (refine wpAnyH_take (i := 2) (oi := _) (v := ?v2) rfl (by kernel_rfl) (by kernel_rfl) (by kernel_rfl) (fun _ _ _ h => h) (Or.inl ⟨by kernel_rfl, ?y2⟩) (by assumption) ?r2; case y2 => (intro u hSu; (obtain ⟨q0, q1, q2, q3, q4⟩ := hSu.use); go_simp; (try with_reducible rfl))); (try simp only [List.getElem_toArray, List.getElem_cons_succ, List.getElem_cons_zero, Act.put, List.setIfInBounds_toArray, List.set_cons_zero, List.set_cons_succ])
  (refine wpAnyH_take (i := 5) (oi := _) (v := ?v5) rfl (by kernel_rfl) (by kernel_rfl) (by kernel_rfl) (fun _ _ _ h => h) (Or.inl ⟨by kernel_rfl, ?y5⟩) (by assumption) ?r5; case y5 => (intro u hSu; (obtain ⟨q0, q1, q2, q3, q4⟩ := hSu.use); go_simp; (try with_reducible rfl))); (try simp only [List.getElem_toArray, List.getElem_cons_succ, List.getElem_cons_zero, Act.put, List.setIfInBounds_toArray, List.set_cons_zero, List.set_cons_succ])
  refine wpAnyH_ready (rs := [3]) (by kernel_rfl) (by simp) ?_
  refine AllReadyH.cons (o := _) rfl (fun K hK => ?_) AllReadyH.nil
  go_simp
  refine (HC1.out _).mono ?_
  rintro e w3 ⟨A1, c1, rfl, hm, bb⟩
  have hc3 := hHeld.keep bb
  have M3 := Lib.hid hm
  have B3 := Lib.hid (below_then B2.out bb)
  have X3 := Lib.hid (X2.out.keep bb)
  have T3 := Lib.hid (T2.out.keep bb)
  clear hm bb B2 X2 T2 hHeld
  go_wp2_with fail
  refine hK.out _ _ hc3 (fun hHeld => ?_)
  clear hK K hc3
  try try simp only [List.getElem_toArray, List.getElem_cons_succ, List.getElem_cons_zero, Act.put, List.setIfInBounds_toArray, List.set_cons_zero, List.set_cons_succ]
  refine wpAnyH_ready (rs := [6]) (by kernel_rfl) (by simp) ?_
  refine AllReadyH.cons (o := _) rfl (fun K hK => ?_) AllReadyH.nil
  go_simp
  refine (HC2.out _ T3.out).mono ?_
  rintro e w4 ⟨A2, c2, rfl, hw, bb⟩
  have hc4 := hHeld.keep bb
  have M4 := Lib.hid (M3.out.keep bb)
  have W4 := Lib.hid hw
  have B4 := Lib.hid (below_then B3.out bb)
  have X4 := Lib.hid (X3.out.keep bb)
  clear hw bb B3 X3 T3 M3 hHeld
  go_wp2_with fail
  refine hK.out _ _ hc4 (fun hHeld => ?_)
  clear hK K hc4
  try try simp only [List.getElem_toArray, List.getElem_cons_succ, List.getElem_cons_zero, Act.put, List.setIfInBounds_toArray, List.set_cons_zero, List.set_cons_succ]
  (refine wpAnyH_take (i := 7) (oi := _) (v := ?v7) rfl (by kernel_rfl) (by kernel_rfl) (by kernel_rfl) (fun _ _ _ h => h) (Or.inl ⟨by kernel_rfl, ?y7⟩) (by assumption) ?r7; case y7 => (intro u hSu; (obtain ⟨q0, q1, q2, q3, q4⟩ := hSu.use); go_simp; (try with_reducible rfl))); (try simp only [List.getElem_toArray, List.getElem_cons_succ, List.getElem_cons_zero, Act.put, List.setIfInBounds_toArray, List.set_cons_zero, List.set_cons_succ])
  refine wpAnyH_ready (rs := [8]) (by kernel_rfl) (by simp) ?_
  refine AllReadyH.cons (o := _) rfl (fun K hK => ?_) AllReadyH.nil
  refine step_vstore rfl _ _ rfl (w.heap.size + 1) vm0 (newJ L d r v o A1 c1 A2 c2) rfl rfl X4.out ?_
  have hb3 := vrow X4.out (newJ L d r v o A1 c1 A2 c2)
  have hc5 : CBox (w4.setRow (w.heap.size + 1) (vmC (newJ L d r v o A1 c1 A2 c2))) w.heap.size (L : Int) d r v o := by
    unfold CBox at hHeld ⊢
    rw [setRow_other _ _ _ _ (by omega)]
    exact hHeld
  refine hK.out _ _ hc5 (fun hHeld => ?_)
  clear hK K hc5
  try try simp only [List.getElem_toArray, List.getElem_cons_succ, List.getElem_cons_zero, Act.put, List.setIfInBounds_toArray, List.set_cons_zero, List.set_cons_succ]
  (refine wpAnyH_take (i := 9) (oi := _) (v := ?v9) rfl (by kernel_rfl) (by kernel_rfl) (by kernel_rfl) (fun _ _ _ h => h) (Or.inl ⟨by kernel_rfl, ?y9⟩) (by assumption) ?r9; case y9 => (intro u hSu; (obtain ⟨q0, q1, q2, q3, q4⟩ := hSu.use); go_simp; (try with_reducible rfl))); (try simp only [List.getElem_toArray, List.getElem_cons_succ, List.getElem_cons_zero, Act.put, List.setIfInBounds_toArray, List.set_cons_zero, List.set_cons_succ])
  refine wpAnyH_done (by kernel_rfl) ?_ _
  refine NoPanic.normal ?_
  go_wp2_with fail
  refine bodyPost_ret (res_ct rfl _ _ _ _ rfl hb3) rfl ⟨A1, c1, A2, c2, rfl, ?_, below_setRow B4.out (by omega) _⟩
  obtain ⟨x, y, e, h1, h2⟩ := M4.out
  injection e with e
  injection e with e
  injection e with e1 e2
  subst e1
  exact ⟨mem_mk (h1.vrow X4.out _) (pats_nil _), row_nil _, row_nil _, rws_nil _ _, W4.out.vrow X4.out _, byt_nil _, byt_nil _, rws_nil _ _, rws_nil _ _⟩
theorem new_any2 (m d r v o : Int) (w : World) (HT : Tab w) : Calls Tryz.prog 8 #[.agg #[.int .i64 m, .int .i64 d, .int .i64 r, .int .i64 v, .int .i64 o]] w (NewOutJ m d r v o w) := by
  cases h : fitsB m d r v o with
  | false =>
    refine (new_no m d r v o w h).mono ?_
    rintro e w1 ⟨rfl, b⟩
    exact ⟨fun e => absurd (h.symm.trans e) (by decide), fun _ => rfl, b⟩
  | true =>
    have hf := (fits_iff m d r v o).1 h
    obtain ⟨L, rfl⟩ : ∃ L : Nat, m = (L : Int) := ⟨m.toNat, by omega⟩
    refine (new_yes2 L d r v o w HT h).mono ?_
    rintro e w1 ⟨A1, c1, A2, c2, rfl, hv, b⟩
    exact ⟨fun _ => ⟨L, A1, c1, A2, c2, rfl, rfl, hv⟩, fun e => absurd (h.symm.trans e) (by decide), b⟩
end Go.Proofs.YtbighilgkmfemaaGreatDoor

/- What a new machine has: its cells, its words, that it is right; plain facts. -/
namespace Go.Proofs.YtbighilgkmfemaaGreatDoor
open Go.RowKit
set_option linter.unusedVariables false
set_option linter.unusedSimpArgs false

theorem bn_row {L j : Nat} (hj : j < L) : bn (rowN L 167, []) j = (byteN 167 j).toNat := by
  unfold bn
  rw [List.getD_eq_getElem?_getD, rowN_at hj]
  rfl
theorem cell_ok {L p : Nat} (h8 : p % 8 = 0) (hp : p + 8 ≤ L) : cellC L (p : Int) = 0 := by
  have h1 : okB L (p : Int) 8 = true := by unfold okB; rw [decide_eq_true_eq]; omega
  unfold cellC
  rw [if_pos h1, if_pos (by omega)]
theorem fetch_row {L p : Nat} (h8 : p % 8 = 0) (hp : p + 8 ≤ L) : fetchF (rowN L 167, []) (p : Int) = wrap64 (eight (byteN 167 p).toNat (byteN 167 (p + 1)).toNat (byteN 167 (p + 2)).toNat (byteN 167 (p + 3)).toNat (byteN 167 (p + 4)).toNat (byteN 167 (p + 5)).toNat (byteN 167 (p + 6)).toNat (byteN 167 (p + 7)).toNat : Int) := by
  unfold fetchF
  rw [show ((rowN L 167, ([] : List Pt)) : PM).1.length = L from rowN_len L 167, if_pos (cell_ok h8 hp), Int.toNat_natCast]
  rw [bn_row (by omega), bn_row (by omega), bn_row (by omega), bn_row (by omega), bn_row (by omega), bn_row (by omega), bn_row (by omega), bn_row (by omega)]
set_option maxRecDepth 100000 in
theorem field_bytes : ∀ i, i < 167 → wrap64 (eight (byteN 167 (32 + 8 * i)).toNat (byteN 167 (32 + 8 * i + 1)).toNat (byteN 167 (32 + 8 * i + 2)).toNat (byteN 167 (32 + 8 * i + 3)).toNat (byteN 167 (32 + 8 * i + 4)).toNat (byteN 167 (32 + 8 * i + 5)).toNat (byteN 167 (32 + 8 * i + 6)).toNat (byteN 167 (32 + 8 * i + 7)).toNat : Int) = ((numN i : Nat) : Int) := by decide +kernel
/-- A code field's cell is its number; BASE has 10. -/
theorem fetch_num {L i : Nat} (hL : 1368 ≤ L) (hi : i < 167) : fetchF (rowN L 167, []) ((32 + 8 * i : Nat) : Int) = ((numN i : Nat) : Int) := by
  rw [fetch_row (by omega) (by omega)]
  exact field_bytes i hi
theorem fetch_base {L : Nat} (hL : 1368 ≤ L) : fetchF (rowN L 167, []) 0 = 10 := by
  have h := fetch_row (L := L) (p := 0) (by omega) (by omega)
  rw [show ((0 : Nat) : Int) = 0 from rfl] at h
  rw [h]
  decide +kernel
theorem code_num : ∀ i, i < 167 → codeB ((numN i : Nat) : Int) = true := by decide +kernel
theorem kind_num {L i : Nat} (hL : 1368 ≤ L) (hi : i < 167) : kindV (rowN L 167, []) L ((32 + 8 * i : Nat) : Int) = ((numN i : Nat) : Int) ∧ kindC (rowN L 167, []) L ((32 + 8 * i : Nat) : Int) = 0 := by
  have h1 := cell_ok (L := L) (p := 32 + 8 * i) (by omega) (by omega)
  have h2 := fetch_num hL hi
  have h3 := code_num i hi
  unfold kindV kindC
  rw [h2]
  exact ⟨if_pos ⟨h1, h3⟩, by rw [if_pos h1, if_pos h3]⟩
/-- The words that are found. -/
theorem find_prim : ∀ i, i < 130 → findI (newW 167) (nmN i) = if i < 12 then none else some i := by decide +kernel
theorem find_spec : ∀ j, j < 37 → findI (newW 167) (nmN (130 + j)) = some (130 + j) := by decide +kernel
theorem find_dup : findI (newW 167) [100, 117, 112] = some 23 := by decide +kernel
theorem word_at {i : Nat} (h : i < 167) : (newW 167).getD i w0 = wordN i := by
  rw [List.getD_eq_getElem?_getD]
  unfold newW
  rw [List.getElem?_map, List.getElem?_range h]
  rfl
theorem words_right : dRight (newW 167) = true := by decide +kernel
theorem words_few : ∀ q ∈ newW 167, 0 ≤ q.fl ∧ q.fl ≤ 7 ∧ q.nm.length ≤ 60 := by decide +kernel
theorem row_right {L : Nat} (h : L ≤ 65536) (h8 : L % 8 = 0) : rightB (rowN L 167, []) = true := by
  unfold rightB
  rw [show ((rowN L 167, ([] : List Pt)) : PM).1.length = L from rowN_len L 167]
  simp [h, h8]
/-- The machine that New makes, in whatever letters. -/
def confK (m d r v o : Int) : VmK := { vm0 with cm := m, cd := d, cr := r, cw := v, co := o, here := 1368 }
theorem sc_new (L : Nat) (d r v o : Int) (A1 : Option Addr) (c1 : Nat) (A2 : Option Addr) (c2 : Nat) : Sc (newJ L d r v o A1 c1 A2 c2) (confK L d r v o) := ⟨rfl, rfl, rfl, rfl, rfl, rfl, rfl, rfl, rfl, rfl, rfl, rfl, rfl⟩
structure Lens (k : VmK) (L : VmL) : Prop where
  m : L.m.1.length = k.mn
  d : L.d.length = k.dn
  r : L.r.length = k.rn
  f : L.f.length = k.fn
  dict : L.dict.length = k.wn
  o : L.o.length = k.on
  q : L.q.length = k.qn
  e : L.e.length = k.en
  h : L.h.length = k.hn
theorem IsVm.lens {w : World} {k : VmK} {L : VmL} (h : IsVm w k L) : Lens k L := ⟨h.m.len1, h.d.1, h.r.1, h.f.len, h.dict.len, h.o.len, h.q.len, h.e.len, h.h.len⟩
theorem right_new {w : World} {k : VmK} {L : Nat} {d r v o : Int} (h : IsVm w k (newL L)) (s : Sc k (confK L d r v o)) (hf : fitsB (L : Int) d r v o = true) : vRight k (newL L) = true := by
  have l := h.lens
  have hm : k.mn = L := by have := l.m; rw [← this]; exact rowN_len L 167
  have hd : k.dn = 0 := l.d.symm
  have hr : k.rn = 0 := l.r.symm
  have hff : k.fn = 0 := l.f.symm
  have hw : k.wn = 167 := by have := l.dict; rw [← this]; exact newW_len 167
  have ho : k.on = 0 := l.o.symm
  have hq : k.qn = 0 := l.q.symm
  have he : k.en = 0 := l.e.symm
  have hh : k.hn = 0 := l.h.symm
  have f := (fits_iff (L : Int) d r v o).1 hf
  have s1 : k.cm = (L : Int) := s.cm
  have s2 : k.cd = d := s.cd
  have s3 : k.cr = r := s.cr
  have s4 : k.cw = v := s.cw
  have s5 : k.co = o := s.co
  have s6 : k.here = 1368 := s.here
  have s7 : k.qo = false := s.qo
  have s8 : k.free = 0 := s.free
  have s9 : k.next = 0 := s.next
  have h1 : fitsV k = true := by unfold fitsV; rw [s1, s2, s3, s4, s5]; exact hf
  have h2 : rightB (newL L).m = true := row_right (by omega) (by omega)
  have h3 : dRight (newL L).dict = true := words_right
  have h4 : pRight k.qo (newL L).q = true := by rw [s7]; unfold pRight newL; simp
  have h5 : headB k = true := by unfold headB; rw [decide_eq_true_eq, s1, s6, hm]; omega
  have h6 : tailB k = true := by unfold tailB; rw [decide_eq_true_eq, hd, hr, hff, hw, ho, he, hh, s2, s3, s4, s5, s8, s9]; omega
  unfold vRight
  rw [h1, h2, h3, h4, h5, h6]
  rfl
theorem wrong_zero : vRight vm0 noneL = false := by
  have h1 : fitsV vm0 = false := by decide
  unfold vRight
  rw [h1]
  rfl
end Go.Proofs.YtbighilgkmfemaaGreatDoor
