/- What the laws of this stage lean on, part 6: DictCodeE, PicMath, PicCodeA. -/
import Derived.Test.YtbighilgkmfemaaDoorSetE
import Derived.ArgAppend
import Derived.Test.YtbighilgkmfemaaDoorSetD
import Derived.Test.YtbighilgkmfemaaDoorSetC

/- Contracts of dict's Same, Add, Flag, Cut. -/
namespace Go.Proofs.YtbighilgkmfemaaDoor
open Go.RowKit
set_option linter.unusedVariables false
set_option linter.unusedSimpArgs false

set_option maxRecDepth 100000 in
set_option maxHeartbeats 4000000 in
theorem wequal_any (A A' : Option Addr) (n c n' c' : Nat) (a b : List Wr) (w : World) (h : Wds w (.slice A n c) a) (h' : Wds w (.slice A' n' c') b) (ha : a.length ≤ 100000) :
    Calls Tryd.prog 73 #[.slice A n c, .slice A' n' c'] w fun e w' => e = .returned (.bool (dSame a b)) ∧ Below w.heap.size w w' := by
  have ea := h.len
  have eb := h'.len
  subst ea eb
  by_cases hl : a.length = b.length
  · by_cases h0 : a.length = 0
    · have e1 : a = [] := List.eq_nil_of_length_eq_zero h0
      have e2 : b = [] := List.eq_nil_of_length_eq_zero (by omega)
      subst e1 e2
      have H : Hid (dSame [] [] = true) := by show _ = _; rfl
      rw [H.out]
      clear h h' hl h0 ha
      go_enter Tryd.func73, Tryd.ntmps73
      go_wp2_with fail
      refine wp_loop_rounds 1 ?_
      iterate 1 (rw [rounds_succ]; go_wp2_with fail)
      go_ret
      exact ⟨rfl, Below.refl _ _⟩
    · obtain ⟨g, o, hA, _⟩ := wds_cell h (k := 0) (by omega)
      obtain ⟨g', o', hA', _⟩ := wds_cell h' (k := 0) (by omega)
      subst hA hA'
      exact wequal_some g o _ c g' o' _ c' a b w h h' (by omega) (by omega)
  · have H : Hid (dSame a b = false) := by show _ = _; unfold dSame; simp; intro e; rw [e] at hl; exact hl rfl
    rw [H.out]
    have hl' : ((a.length : Int) != (b.length : Int)) = true := by simp; omega
    have hl2 : ((a.length : Int) == (b.length : Int)) = false := by simp; omega
    have hl3 : ¬ (a.length : Int) = (b.length : Int) := by omega
    clear h h' hl ha
    go_enter Tryd.func73, Tryd.ntmps73
    go_wp2_with fail
    go_ret
    exact ⟨rfl, Below.refl _ _⟩
set_option maxRecDepth 100000 in
set_option maxHeartbeats 4000000 in
theorem dsame_any (A A' : Option Addr) (n c n' c' : Nat) (a b : List Wr) (w : World) (h : Wds w (.slice A n c) a) (h' : Wds w (.slice A' n' c') b) (ha : a.length ≤ 100000) :
    Calls Tryd.prog 40 #[.slice A n c, .slice A' n' c'] w fun e w' => e = .returned (.bool (dSame a b)) ∧ Below w.heap.size w w' := by
  have HC := Lib.hid (wequal_any A A' n c n' c' a b w h h' ha)
  clear h h' ha
  go_enter Tryd.func40, Tryd.ntmps40
  go_wp2_with fail
  refine HC.out.mono ?_
  rintro e1 w5 ⟨rfl, b5⟩
  have HB := Lib.hid b5
  clear b5
  go_wp2_with fail
  go_ret
  exact ⟨rfl, HB.out⟩

/-- append of a word to a row that came in and has no room: it always makes a row of its own. -/
theorem wpList_wgrow {ops : Array Oper} {rest : List Oper} {o : Oper} {a : Act} {Q : Exit → Act → World → Prop} {w : World} (hgd : o.guard = none) (s x : Operand)
    (ho : o.op = .call { callee := .builtin .append, args := #[s, x], argTypes := #[31, 31] })
    (A : Option Addr) (n c : Nat) (l : List Wr) (hs : a.eval s = .slice A n n) (hy : Wds w (.slice A n c) l)
    (g : Nat) (z : List Wr) (hx : a.eval x = .slice (some ⟨g, 0, none⟩) 1 1) (hz : Wds w (.slice (some ⟨g, 0, none⟩) 1 1) z) (hn : n ≤ 100000)
    (h : ∀ v' w', WOwns w' w.heap.size v' (n + 1) (l ++ z) → Below w.heap.size w w' → wpList Tryd.prog ops Q rest (a.put o.dst v') w') : wpList Tryd.prog ops Q (o :: rest) a w := by
  obtain ⟨i0, hi, hz0, hz1, hz2⟩ := info_parts info_word
  have hl := hy.len
  have hzl := hz.len
  have hli := hy.lies
  have hlz := hz.lies
  refine wpList_append_grows w hgd s x _ ho 45 i0 (.agg #[.string ⟨#[]⟩, .int .i64 0, .int .i64 0]) 3 32 Tryd.underlying31 hi hz0 hz1 hz2 rfl (by decide) A n n (wds l) hs ?_ (by rw [wds_len, hl]) ?_ ⟨g, 0, none⟩ 1 1 (wds z) hx (by rw [wds_len, hzl]) ?_ (wds_one z) (by omega) (by unfold maxLen; omega) (by omega) fun v' w' h1 h2 => h v' w' ?_ ?_
  · intro e
    subst e
    rcases hli with hli | ⟨_, _, e, _⟩
    · have := congrArg List.length hli
      rw [wds_len] at this
      have h0 : l.length * 3 = 0 := this
      omega
    · cases e
  · intro b hb j u hu
    rcases hli with hli | ⟨g2, o2, e, _, hc⟩
    · rw [hli] at hu; simp at hu
    · rw [hb] at e
      replace e := Option.some.inj e
      rw [e, add_at]
      exact hc j u hu
  · intro j u hu
    rcases hlz with hli | ⟨g2, o2, e, _, hc⟩
    · rw [hli] at hu; simp at hu
    · replace e := Option.some.inj e
      rw [e, add_at]
      exact hc j u hu
  · have e := wds_app l z
    unfold WOwns
    rw [e]
    exact h1
  · exact (Below.refl _ w).grown h2 (Nat.le_refl _) (fun k hk => by cases hk)

/-- 's[:n:n]' of a row of n words. -/
def wfullAt (A : Option Addr) (n : Nat) : Option Addr := if n = 0 then A else A.map (·.add (0 * 3))
theorem Wds.full {w : World} {A : Option Addr} {n c : Nat} {l : List Wr} (h : Wds w (.slice A n c) l) : Wds w (.slice (wfullAt A n) n n) l := by
  have hl := h.len
  subst hl
  obtain ⟨A', c', e, h1, h2, h4⟩ := h
  injection e with e1 e2 e3
  subst e1 e3
  refine ⟨_, _, rfl, Nat.le_refl _, by omega, ?_⟩
  rcases h4 with h4 | ⟨g, o, rfl, hg, hc⟩
  · exact .inl h4
  · unfold wfullAt
    split
    · exact .inr ⟨g, o, rfl, hg, hc⟩
    · exact .inr ⟨g, o, by simp [add_at], hg, hc⟩
theorem Wds.room {w : World} {A : Option Addr} {n c : Nat} {l : List Wr} (h : Wds w (.slice A n c) l) : n ≤ c := by
  have hl := h.len
  obtain ⟨A', c', e, h1, _⟩ := h
  injection e with e1 e2 e3
  omega
theorem run_wfull {A : Option Addr} {n c : Nat} (w : World) (hc : n ≤ c) :
    (Instr.slice 31 (.slice A n c) none (some (.int .i64 (n : Int))) (some (.int .i64 (n : Int)))).run Tryd.prog w = .ok (.slice (wfullAt A n) n n) w := by
  have hz : (sizeOf 45).run Tryd.prog w = .ok 3 w := by kernel_rfl
  simp [Instr.slice, run_underlying Tryd.underlying31, Instr.sliceBounds, run_sliceBound, hc, hz, wfullAt]
set_option maxHeartbeats 1000000 in
theorem clip_any (A : Option Addr) (n c : Nat) (w : World) (hc : n ≤ c) : Calls Tryd.prog 89 #[.slice A n c] w fun e w' => e = .returned (.slice (wfullAt A n) n n) ∧ w = w' := by
  have q : ∀ w : World, _ := fun w => run_wfull (A := A) w hc
  go_enter Tryd.func89, Tryd.ntmps89
  go_wp2_with fail
  go_ret
  exact ⟨rfl, rfl⟩

set_option maxRecDepth 100000 in
set_option maxHeartbeats 4000000 in
theorem addcode_any (l : List Wr) (nm : List UInt8) (fl lim : Int) (w : World) (hn : l.length ≤ 100000) : Calls Tryd.prog 87 #[.string (strB nm), .int .i64 fl, .int .i64 (l.length : Int), .int .i64 lim] w fun e w' => e = .returned (.int .i64 (addC l nm fl lim)) ∧ Below w.heap.size w w' := by
  have HN := Lib.hid (fun w => namecode_any nm w)
  have HF := Lib.hid (fun w => areflags_any fl w)
  obtain ⟨z, ez⟩ : ∃ z, namedC nm = z := ⟨_, rfl⟩
  rw [ez] at HN
  by_cases hz : z = 0
  · subst hz
    cases hf : flagB fl with
    | true =>
      rw [hf] at HF
      by_cases hr : (l.length : Int) < lim ∧ l.length < 1024
      · have H2 : Hid (addC l nm fl lim = 0) := by show _ = _; unfold addC roomB; rw [ez, hf]; simp [hr]
        have r1 : decide (lim ≤ (l.length : Int)) = false := by simp; omega
        have r2 : decide ((1024 : Int) ≤ (l.length : Int)) = false := by simp; omega
        rw [H2.out]
        clear ez hf hr
        go_enter Tryd.func87, Tryd.ntmps87
        go_wp2_with fail
        refine (HN.out _).mono ?_
        rintro e1 w1 ⟨rfl, b1⟩
        have HB := Lib.hid b1
        clear b1
        go_wp2_with fail
        refine (HF.out _).mono ?_
        rintro e1 w6 ⟨rfl, rfl⟩
        go_wp2_with fail
        go_ret
        exact ⟨rfl, HB.out⟩
      · have H2 : Hid (addC l nm fl lim = -8) := by show _ = _; unfold addC roomB; rw [ez, hf, show decide ((l.length : Int) < lim ∧ l.length < 1024) = false by simpa using hr]; simp
        rw [H2.out]
        by_cases r1 : lim ≤ (l.length : Int)
        · clear ez hf hr
          go_enter Tryd.func87, Tryd.ntmps87
          go_wp2_with fail
          refine (HN.out _).mono ?_
          rintro e1 w1 ⟨rfl, b1⟩
          have HB := Lib.hid b1
          clear b1
          go_wp2_with fail
          refine (HF.out _).mono ?_
          rintro e1 w6 ⟨rfl, rfl⟩
          go_wp2_with fail
          go_ret
          exact ⟨rfl, HB.out⟩
        · have r1' : decide (lim ≤ (l.length : Int)) = false := by simp; omega
          have r2 : (1024 : Int) ≤ (l.length : Int) := by omega
          clear ez hf hr r1
          go_enter Tryd.func87, Tryd.ntmps87
          go_wp2_with fail
          refine (HN.out _).mono ?_
          rintro e1 w1 ⟨rfl, b1⟩
          have HB := Lib.hid b1
          clear b1
          go_wp2_with fail
          refine (HF.out _).mono ?_
          rintro e1 w6 ⟨rfl, rfl⟩
          go_wp2_with fail
          go_ret
          exact ⟨rfl, HB.out⟩
    | false =>
      rw [hf] at HF
      have H2 : Hid (addC l nm fl lim = -24) := by show _ = _; unfold addC; rw [ez, hf]; simp
      rw [H2.out]
      clear ez hf
      go_enter Tryd.func87, Tryd.ntmps87
      go_wp2_with fail
      refine (HN.out _).mono ?_
      rintro e1 w1 ⟨rfl, b1⟩
      have HB := Lib.hid b1
      clear b1
      go_wp2_with fail
      refine (HF.out _).mono ?_
      rintro e1 w6 ⟨rfl, rfl⟩
      go_wp2_with fail
      go_ret
      exact ⟨rfl, HB.out⟩
  · have H2 : Hid (addC l nm fl lim = z) := by show _ = _; unfold addC; rw [ez, if_pos hz]
    have hz1 : ((z : Int) != 0) = true := by simpa using hz
    have hz2 : ((z : Int) == 0) = false := by simpa using hz
    rw [H2.out]
    clear ez hz
    go_enter Tryd.func87, Tryd.ntmps87
    go_wp2_with fail
    refine (HN.out _).mono ?_
    rintro e1 w1 ⟨rfl, b1⟩
    have HB := Lib.hid b1
    clear b1
    go_wp2_with fail
    go_ret
    exact ⟨rfl, HB.out⟩

set_option maxRecDepth 100000 in
set_option maxHeartbeats 4000000 in
theorem dadd_any (A : Option Addr) (n c : Nat) (l : List Wr) (nm : List UInt8) (xt fl lim : Int) (w : World) (h : Wds w (.slice A n c) l) (hn : n ≤ 100000) : Calls Tryd.prog 59 #[.slice A n c, .string (strB nm), .int .i64 xt, .int .i64 fl, .int .i64 lim] w (DictOut (addL l nm xt fl lim) (addC l nm fl lim) w) := by
  have hl := h.len
  subst hl
  have HA := Lib.hid h
  have HC := Lib.hid (addcode_any l nm fl lim w hn)
  have HR := Lib.hid (fun w => clip_any A l.length c w h.room)
  have hadd : addL l nm xt fl lim = if addC l nm fl lim = 0 then l ++ [⟨nm, xt, fl⟩] else l := rfl
  obtain ⟨z, ez⟩ : ∃ z, addC l nm fl lim = z := ⟨_, rfl⟩
  rw [ez] at HC hadd ⊢
  rw [hadd]
  clear hadd ez
  unfold DictOut
  by_cases hz : z = 0
  · subst hz
    rw [if_pos rfl]
    clear h
    go_enter Tryd.func59, Tryd.ntmps59
    go_wp2_with fail
    refine HC.out.mono ?_
    rintro e1 w1 ⟨rfl, b1⟩
    have HB := Lib.hid b1
    have HA1 := Lib.hid (HA.out.keep b1)
    clear b1
    go_wp2_with fail
    refine (HR.out _).mono ?_
    rintro e1 w6 ⟨rfl, rfl⟩
    go_wp2_with (at_builtin; refine wpList_wgrow rfl _ _ rfl (wfullAt A l.length) l.length l.length l rfl (HA1.out.full.keep (al_one _ _)) w1.heap.size [⟨nm, xt, fl⟩] rfl (wds_newone w1 ⟨nm, xt, fl⟩) hn ?_; intro v2 w4 ho hb2; obtain ⟨A9, n9, c9, rfl⟩ := wds_slice ho.wds; have O4 := Lib.hid ho.wds; have B4 := Lib.hid (below_then (alloc_then HB.out) hb2); clear ho hb2)
    go_ret2
    exact ⟨A9, n9, c9, rfl, O4.out, B4.out⟩
  · have hz1 : ((z : Int) != 0) = true := by simpa using hz
    have hz2 : ((z : Int) == 0) = false := by simpa using hz
    rw [if_neg hz]
    clear h hz
    go_enter Tryd.func59, Tryd.ntmps59
    go_wp2_with fail
    refine HC.out.mono ?_
    rintro e1 w1 ⟨rfl, b1⟩
    have HB := Lib.hid b1
    have HA1 := Lib.hid (HA.out.keep b1)
    clear b1
    go_wp2_with fail
    refine (wclone_any A l.length c l w1 HA1.out hn).mono ?_
    rintro e1 w6 ⟨v, rfl, ho, b6⟩
    obtain ⟨A9, n9, c9, rfl⟩ := wds_slice ho.wds
    have O4 := Lib.hid ho.wds
    have B4 := Lib.hid (below_then HB.out b6)
    clear ho b6
    go_wp2_with fail
    go_ret2
    exact ⟨A9, n9, c9, rfl, O4.out, B4.out⟩

end Go.Proofs.YtbighilgkmfemaaDoor

/- Plain facts on a pair's digits. -/
namespace Go.Proofs.YtbighilgkmfemaaDoor
open Go.RowKit
set_option linter.unusedVariables false
set_option linter.unusedSimpArgs false

/-- What a pair's digits are made of under way: what is left yet is u, what was laid stands behind l. -/
def AllInv (o : Bool) (l : List UInt8) (lo hi b : Int) (l' : List UInt8) (u : Nat) (bad : Int) : Prop :=
  (bad = 0 ∧ o = true ∧ baseB b = true ∧ l'.length ≤ 130 ∧ ∃ laid, l' = l ++ laid ∧ (u = 0 → figs lo hi b = laid.reverse) ∧ (u ≠ 0 → figs lo hi b = usF b.toNat u ++ laid.reverse)) ∨ (bad ≠ 0 ∧ l'.length ≤ 1000 ∧ allL o l lo hi b = l ∧ bad = allC o l lo hi b)
theorem base_nat {b : Int} (h : baseB b = true) : 2 ≤ b.toNat ∧ b.toNat ≤ 36 := by have := (baseB_iff b).1 h; omega
theorem us_one (b u : Nat) : 1 ≤ (usF b u).length := by
  have := @us_ne b u
  cases h : usF b u with
  | nil => exact absurd h this
  | cons a t => simp
theorem pall_no {o : Bool} {l : List UInt8} {lo hi b : Int} (h : allOK o l lo hi b = false) : allL o l lo hi b = l := by unfold allL; rw [if_neg (by simp [h])]
theorem div_lt (P k : Nat) (h : P < 340282366920938463463374607431768211456) : P / k < 340282366920938463463374607431768211456 := Nat.lt_of_le_of_lt (Nat.div_le_self _ _) h
theorem digOK_yes {o : Bool} {l : List UInt8} {b : Int} (hb : baseB b = true) (hk : pOpen o l = true) : digOK o l b = true := by unfold digOK; rw [hb, hk]; rfl
theorem inv_step {o : Bool} {l l' laid : List UInt8} {lo hi b low high : Int} (hb : baseB b = true) (ho : o = true) (hl : l' = l ++ laid) (hl' : l'.length ≤ 130)
    (hf : figs lo hi b = usF b.toNat (pairN low high) ++ laid.reverse) : AllInv o l lo hi b (digL o l' low high b) (pairN (digLo o l' low high b) (digHi o l' low high b)) (digC o l' b) := by
  obtain ⟨h2, h36⟩ := base_nat hb
  cases hk : pOpen o l' with
  | true =>
    have hlt := ((pOpen_iff _ _).1 hk).2
    refine .inl ⟨?_, ho, hb, ?_, laid ++ [digU low high b], ?_, ?_, ?_⟩
    · unfold digC holdC; rw [if_pos hb, if_pos hk]
    · unfold digL; rw [if_pos (digOK_yes hb hk)]; simp; omega
    · unfold digL; rw [if_pos (digOK_yes hb hk), hl]; simp
    all_goals
      unfold digLo digHi
      rw [if_pos (digOK_yes hb hk), if_pos (digOK_yes hb hk), pair_back (div_lt _ _ (pairN_lt _ _)), hf]
      intro h
    · have hlt : pairN low high < b.toNat := (Nat.div_eq_zero_iff_lt (by omega)).1 h
      rw [usF_low hlt]
      unfold digU
      rw [Nat.mod_eq_of_lt hlt]
      simp
    · have hge : b.toNat ≤ pairN low high := by
        rcases Nat.lt_or_ge (pairN low high) b.toNat with h' | h'
        · exact absurd ((Nat.div_eq_zero_iff_lt (by omega)).2 h') h
        · exact h'
      rw [usF_big h2 hge]
      unfold digU
      simp
  | false =>
    have hge : 130 ≤ l'.length := by have := (pOpen_no _ _).1 hk; simp [ho] at this; omega
    have hno : allOK o l lo hi b = false := by
      unfold allOK
      rw [hb, hf]
      have := us_one b.toNat (pairN low high)
      rw [hl] at hge
      simp at hge ⊢
      intro _
      omega
    refine .inr ⟨?_, ?_, pall_no hno, ?_⟩
    · unfold digC holdC; rw [if_pos hb, if_neg (by simp [hk])]; omega
    · unfold digL digOK; rw [hb, hk, if_neg (by simp)]; omega
    · unfold digC holdC allC; rw [if_pos hb, if_pos hb, if_neg (by simp [hk]), hno, if_neg (by simp)]
theorem AllInv.next {o : Bool} {l l' : List UInt8} {lo hi b low high : Int} (h : AllInv o l lo hi b l' (pairN low high) 0) (h0 : pairN low high ≠ 0) : AllInv o l lo hi b (digL o l' low high b) (pairN (digLo o l' low high b) (digHi o l' low high b)) (digC o l' b) := by
  rcases h with ⟨_, ho, hb, hl', laid, hl, _, hf⟩ | ⟨h, _⟩
  · exact inv_step hb ho hl hl' (hf h0)
  · exact absurd rfl h
theorem AllInv.done {o : Bool} {l l' : List UInt8} {lo hi b : Int} (h : AllInv o l lo hi b l' 0 0) : l' = allL o l lo hi b ∧ allC o l lo hi b = 0 := by
  rcases h with ⟨_, ho, hb, hl', laid, hl, hf, _⟩ | ⟨h, _⟩
  · have hf := hf rfl
    have hok : allOK o l lo hi b = true := by
      unfold allOK
      rw [hb, hf, ho]
      rw [hl] at hl'
      simp at hl' ⊢
      exact hl'
    refine ⟨?_, ?_⟩
    · unfold allL; rw [if_pos hok, hf, hl]; simp
    · unfold allC; rw [if_pos hb, if_pos hok]
  · exact absurd rfl h
theorem AllInv.len {o : Bool} {l l' : List UInt8} {lo hi b bad : Int} {u : Nat} (h : AllInv o l lo hi b l' u bad) : l'.length ≤ 1000 := by
  rcases h with ⟨_, _, _, h, _⟩ | ⟨_, h, _⟩
  · omega
  · exact h
end Go.Proofs.YtbighilgkmfemaaDoor

/- Contracts of the program's Begin, Right, Same, Hold, Sign. -/
namespace Go.Proofs.YtbighilgkmfemaaDoor
open Go.RowKit
set_option linter.unusedVariables false
set_option linter.unusedSimpArgs false

set_option maxRecDepth 100000 in
theorem right_any (A : Option Addr) (n c : Nat) (o : Bool) (l : List UInt8) (w : World) (h : Byt w (.slice A n c) l) :
    Calls Tryd.prog 50 #[.agg #[.slice A n c, .bool o]] w fun e w' => e = .returned (.bool (pRight o l)) ∧ Below w.heap.size w w' := by
  have hl := h.len
  cases o with
  | true =>
    by_cases h1 : n ≤ 130
    · have h1' : (n : Int) ≤ 130 := by omega
      have H : Hid (pRight true l = true) := (pRight_iff _ _).2 ⟨by omega, .inl rfl⟩
      rw [H.out]
      clear h hl
      go_enter Tryd.func50, Tryd.ntmps50
      go_wp2
      go_ret
      exact ⟨rfl, al_one _ _⟩
    · have H : Hid (pRight true l = false) := (pRight_no _ _).2 (by omega)
      have h1' : decide ((n : Int) ≤ 130) = false := by simp; omega
      rw [H.out]
      clear h hl h1
      go_enter Tryd.func50, Tryd.ntmps50
      go_wp2
      go_ret
      exact ⟨rfl, al_one _ _⟩
  | false =>
    by_cases h0 : n = 0
    · have H : Hid (pRight false l = true) := (pRight_iff _ _).2 ⟨by omega, .inr (len_zero (by omega))⟩
      rw [H.out]
      clear h hl
      subst h0
      go_enter Tryd.func50, Tryd.ntmps50
      go_wp2
      go_ret
      exact ⟨rfl, al_one _ _⟩
    · have H : Hid (pRight false l = false) := (pRight_no _ _).2 (by rintro ⟨_, h | h⟩; cases h; rw [h] at hl; exact h0 hl.symm)
      rw [H.out]
      have h0' : ((n : Int) == 0) = false := by simp; omega
      clear h hl
      go_enter Tryd.func50, Tryd.ntmps50
      go_wp2
      go_ret
      exact ⟨rfl, al_one _ _⟩

set_option maxRecDepth 100000 in
theorem same_any (A A' : Option Addr) (n c n' c' : Nat) (o o' : Bool) (l l' : List UInt8) (w : World) (h : Byt w (.slice A n c) l) (h' : Byt w (.slice A' n' c') l') :
    Calls Tryd.prog 41 #[.agg #[.slice A n c, .bool o], .agg #[.slice A' n' c', .bool o']] w fun e w' => e = .returned (.bool (pSame o l o' l')) ∧ Below w.heap.size w w' := by
  by_cases ho : o = o'
  · subst ho
    have H : Hid (pSame o l o l' = decide (l = l')) := by show _ = _; unfold pSame; simp
    rw [H.out]
    obtain ⟨d, hd⟩ : ∃ d, decide (l = l') = d := ⟨_, rfl⟩
    have k1 := al_two w (.cells #[.slice A n c, .bool o] 33) (.cells #[.slice A' n' c', .bool o] 33)
    have HE := Lib.hid (equal_any A A' n c n' c' l l' _ (h.keep k1) (h'.keep k1))
    rw [hd] at HE
    rw [hd]
    have K := Lib.hid k1
    have hb : PBox _ _ _ _ _ _ ∧ PBox _ _ _ _ _ _ := box_two w (.slice A n c) (.bool o) (.slice A' n' c') (.bool o) 33 33
    obtain ⟨b1, b2, _, _⟩ := hb.1.use
    obtain ⟨b3, b4, _, _⟩ := hb.2.use
    clear h h' k1 hb hd
    go_enter Tryd.func41, Tryd.ntmps41
    go_wp2_with fail
    refine HE.out.mono ?_
    rintro e w1 ⟨rfl, rfl⟩
    go_wp2_with fail
    go_ret
    exact ⟨rfl, K.out⟩
  · have H : Hid (pSame o l o' l' = false) := by show _ = _; unfold pSame; simp [ho]
    rw [H.out]
    have ho' : (o == o') = false := by simpa using ho
    clear h h' ho
    go_enter Tryd.func41, Tryd.ntmps41
    go_wp2
    go_ret
    exact ⟨rfl, al_two w (.cells #[.slice A n c, .bool o] 33) (.cells #[.slice A' n' c', .bool o'] 33)⟩
end Go.Proofs.YtbighilgkmfemaaDoor
