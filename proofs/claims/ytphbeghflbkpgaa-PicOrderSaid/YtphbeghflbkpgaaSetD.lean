/- What the laws of this stage lean on, part 4: PicCodeD, PicCode, PicShown, PicIn. -/
import Derived.Test.YtphbeghflbkpgaaSetC
import Derived.Test.YtphbeghflbkpgaaSetB
import Derived.WalkSpells
import Derived.ChangeMaps5

/- The contract of the program's All. -/
namespace Go.Proofs.Ytphbeghflbkpgaa
open Go.RowKit
set_option linter.unusedVariables false
set_option linter.unusedSimpArgs false

/-- What All's loop holds: is there one more digit to come, the state ahead of it is such that it may. -/
def AllJ (o : Bool) (l : List UInt8) (lo hi b : Int) (l' : List UInt8) (low high : Int) (more : Bool) : Prop :=
  (more = true ∧ l'.length ≤ 1000 ∧ AllInv o l lo hi b (digL o l' low high b) (pairN (digLo o l' low high b) (digHi o l' low high b)) (digC o l' b)) ∨ (more = false ∧ AllInv o l lo hi b l' 0 0)
def measJ (low high more : Value) : Nat := match more with
  | .bool true => pairN (intOf low) (intOf high) + 1
  | _ => 0
theorem AllJ.start {o : Bool} {l : List UInt8} {lo hi b : Int} (hm : l.length ≤ 1000) : AllJ o l lo hi b l lo hi true := .inl ⟨rfl, hm, inv_start hm⟩
theorem AllJ.len {o : Bool} {l l' : List UInt8} {lo hi b low high : Int} (h : AllJ o l lo hi b l' low high true) : l'.length ≤ 1000 := by
  rcases h with ⟨_, h, _⟩ | ⟨h, _⟩
  · exact h
  · cases h
theorem AllJ.inv {o : Bool} {l l' : List UInt8} {lo hi b low high : Int} (h : AllJ o l lo hi b l' low high true) : AllInv o l lo hi b (digL o l' low high b) (pairN (digLo o l' low high b) (digHi o l' low high b)) (digC o l' b) := by
  rcases h with ⟨_, _, h⟩ | ⟨h, _⟩
  · exact h
  · cases h
theorem AllJ.done {o : Bool} {l l' : List UInt8} {lo hi b low high : Int} (h : AllJ o l lo hi b l' low high false) : l' = allL o l lo hi b ∧ allC o l lo hi b = 0 := by
  rcases h with ⟨h, _⟩ | ⟨_, h⟩
  · cases h
  · exact AllInv.done h
theorem AllJ.more {o : Bool} {l l' : List UInt8} {lo hi b low high : Int} (h : AllInv o l lo hi b l' (pairN low high) 0) (h0 : pairN low high ≠ 0) : AllJ o l lo hi b l' low high true := .inl ⟨rfl, h.len, h.next h0⟩
theorem AllJ.last {o : Bool} {l l' : List UInt8} {lo hi b : Int} (h : AllInv o l lo hi b l' (pairN 0 0) 0) : AllJ o l lo hi b l' 0 0 false := .inr ⟨rfl, h⟩
theorem digC_ok {o : Bool} {l : List UInt8} {b : Int} (h : digC o l b = 0) : baseB b = true ∧ pOpen o l = true := by
  unfold digC holdC at h
  cases hb : baseB b with
  | false => rw [hb] at h; simp at h
  | true =>
    refine ⟨rfl, ?_⟩
    cases hk : pOpen o l with
    | false => rw [hb, hk] at h; simp at h
    | true => rfl
theorem dig_smaller {o : Bool} {l : List UInt8} {low high b : Int} (h : digC o l b = 0) (h0 : pairN (digLo o l low high b) (digHi o l low high b) ≠ 0) : pairN (digLo o l low high b) (digHi o l low high b) < pairN low high := by
  obtain ⟨hb, hk⟩ := digC_ok h
  obtain ⟨_, e1, e2, _⟩ := dig_ok hb hk low high
  rw [e1, e2, pair_back (div_lt _ _ (pairN_lt _ _))] at h0 ⊢
  refine Nat.div_lt_self ?_ (base_nat hb).1
  rcases Nat.eq_zero_or_pos (pairN low high) with h | h
  · rw [h, Nat.zero_div] at h0; exact absurd rfl h0
  · exact h

set_option maxRecDepth 100000 in
set_option maxHeartbeats 4000000 in
theorem all_any (A : Option Addr) (n c : Nat) (o : Bool) (l : List UInt8) (lo hi b : Int) (w : World) (h : Byt w (.slice A n c) l) (hm : l.length ≤ 1000) (hlo : cellR lo) (hhi : cellR hi) (hb : cellR b) :
    Calls Try.prog 22 #[.agg #[.slice A n c, .bool o], .int .i64 lo, .int .i64 hi, .int .i64 b] w (PicOut o (allL o l lo hi b) (allC o l lo hi b) w) := by
  have HJ := Lib.hid (AllJ.start (lo := lo) (hi := hi) (b := b) (o := o) hm)
  have HC1 : Hid (cellR lo ∧ cellR hi) := ⟨hlo, hhi⟩
  have HD : Hid (∀ (a : World) (A : Option Addr) (n c : Nat) (l : List UInt8) (lo hi : Int), Byt a (.slice A n c) l → l.length ≤ 1000 → cellR lo → cellR hi → Calls Try.prog 20 #[.agg #[.slice A n c, .bool o], .int .i64 lo, .int .i64 hi, .int .i64 b] a (DigOut o (digL o l lo hi b) (digLo o l lo hi b) (digHi o l lo hi b) (digC o l b) a)) := fun a A n c l lo hi h hm h1 h2 => dig_any A n c o l lo hi b a h hm h1 h2 hb
  obtain ⟨o1, ho1⟩ : ∃ o1 : Obj, .cells #[.slice A n c, .bool o] 24 = o1 := ⟨_, rfl⟩
  obtain ⟨o2, ho2⟩ : ∃ o2 : Obj, .cells #[.slice none 0 0, .bool false] 24 = o2 := ⟨_, rfl⟩
  obtain ⟨W, hW⟩ : ∃ W, (w.alloc o1).alloc o2 = W := ⟨_, rfl⟩
  have kk := al_two w o1 o2
  have hx : PBox ((w.alloc o1).alloc o2) w.heap.size A n c o ∧ PBox ((w.alloc o1).alloc o2) (w.heap.size + 1) none 0 0 false := by rw [← ho1, ← ho2]; exact box_two _ _ _ _ _ _ _
  have hs : W.heap.size = w.heap.size + 1 + 1 := by rw [← hW]; simp
  rw [hW] at kk hx
  obtain ⟨V, hV⟩ : ∃ V, W.alloc o1 = V := ⟨_, rfl⟩
  have hVb : Below W.heap.size W V := by rw [← hV]; exact al_one _ _
  have HA0 : Hid (PAt W.heap.size A n c o l V) := by rw [← hV, ← ho1]; exact pat_new (h.keep kk)
  have HB := Lib.hid kk
  have HB1 := Lib.hid hVb
  have HX := Lib.hid hx.2
  have HP := Lib.hid hx.1
  have HW : Hid (((w.alloc o1).alloc o2).alloc o1 = V) := by show _ = _; rw [hW, hV]
  have HY := Lib.hid (h.keep kk)
  obtain ⟨RL, eRL⟩ : ∃ x, allL o l lo hi b = x := ⟨_, rfl⟩
  obtain ⟨RC, eRC⟩ : ∃ x, allC o l lo hi b = x := ⟨_, rfl⟩
  have HRL := Lib.hid eRL
  have HRC := Lib.hid eRC
  rw [eRL, eRC]
  rw [hs] at HA0
  obtain ⟨bx, ebx⟩ : ∃ x, w.heap.size + 1 + 1 = x := ⟨_, rfl⟩
  rw [ebx] at HA0
  have HBX : Hid (W.heap.size ≤ bx) := by show _ ≤ _; omega
  have HNE : Hid (w.heap.size ≠ bx ∧ w.heap.size + 1 ≠ bx) := by show _ ∧ _; omega
  clear h kk hx hW hlo hhi eRL eRC hV hVb hs
  subst ho1 ho2
  go_enter Try.func22, Try.ntmps22
  go_wp2_with fail
  rw [HW.out]
  clear ebx
  go_loopw [1, 2, 11] (fun s1 s2 s11 wr => ∃ (low high : Int) (more : Bool) (A2 : Option Addr) (n2 c2 : Nat) (l2 : List UInt8), s1 = .int .i64 low ∧ s2 = .int .i64 high ∧ s11 = .bool more ∧ Hid (PAt bx A2 n2 c2 o l2 wr) ∧ Hid (Below W.heap.size W wr) ∧ Hid (AllJ o l lo hi b l2 low high more) ∧ Hid (cellR low ∧ cellR high)) (fun s1 s2 s11 _ => measJ s1 s2 s11)
  case atStart => exact ⟨lo, hi, true, A, n, c, l, rfl, rfl, rfl, HA0, HB1, HJ, HC1⟩
  case round =>
    clear HA0 HB1 HJ HC1
    obtain ⟨low, high, more, A2, n2, c2, l2, rfl, rfl, rfl, HA2, HB2, HJ2, HC2⟩ := hrel
    obtain ⟨x0, x1⟩ := HA2.out.use
    have XP := Lib.hid (Box.keep HP.out HB2.out)
    have XZ := Lib.hid (Box.keep HX.out HB2.out)
    have HBB := Lib.hid (below_then HB.out HB2.out)
    cases more with
    | false =>
      obtain ⟨e1, e2⟩ := AllJ.done HJ2.out
      have HRC0 : Hid (RC = 0) := HRC.out.symm.trans e2
      have HL2 : Hid (l2 = RL) := e1.trans HRL.out
      obtain ⟨z0, z1, z2, z3⟩ := XZ.out.use
      have lz := XZ.out.lt
      clear e1 e2 HJ2
      go_wp2_with fail
      obtain ⟨r0, r1, _, _⟩ := (PBox.put XZ.out (.slice A2 n2 c2) (.bool o)).use
      refine bodyPost_ret (v := .tuple #[.agg #[.slice A2 n2 c2, .bool o], .int .i64 0]) ?_ rfl ?_
      · simp [results, Try.results22, go_sem, r0, r1]
      · rw [HRC0.out]
        exact ⟨A2, n2, c2, rfl, byt_pset (HL2.out ▸ HA2.out.byt) XZ.out _ _, below_pset HBB.out (by omega) _ _⟩
    | true =>
      have HI2 := Lib.hid (AllJ.inv HJ2.out)
      have HC3 : Hid (cellR (digLo o l2 low high b) ∧ cellR (digHi o l2 low high b)) := ⟨digLo_cell HC2.out.1, digHi_cell HC2.out.2⟩
      have HS := Lib.hid (dig_smaller (o := o) (l := l2) (low := low) (high := high) (b := b))
      have H3 := Lib.hid (HD.out _ A2 n2 c2 l2 low high HA2.out.byt (AllJ.len HJ2.out) HC2.out.1 HC2.out.2)
      obtain ⟨L3, eL3⟩ : ∃ x, digL o l2 low high b = x := ⟨_, rfl⟩
      obtain ⟨lo3, elo3⟩ : ∃ x, digLo o l2 low high b = x := ⟨_, rfl⟩
      obtain ⟨hi3, ehi3⟩ : ∃ x, digHi o l2 low high b = x := ⟨_, rfl⟩
      obtain ⟨c3, ec3⟩ : ∃ x, digC o l2 b = x := ⟨_, rfl⟩
      rw [eL3, elo3, ehi3, ec3] at HI2 H3
      rw [elo3, ehi3] at HC3 HS
      rw [ec3] at HS
      clear eL3 elo3 ehi3 ec3 HJ2 HC2 x0 x1
      by_cases hc : c3 = 0
      · subst hc
        have HS1 := Lib.hid (HS.out rfl)
        by_cases hu : pairN lo3 hi3 = 0
        · obtain ⟨rfl, rfl⟩ := (pair_zero HC3.out.1 HC3.out.2).1 hu
          have HJ3 := Lib.hid (AllJ.last HI2.out)
          clear hu HS HS1 HI2
          obtain ⟨x0, x1⟩ := HA2.out.use
          go_wp2_with fail
          refine H3.out.mono ?_
          rintro e w3 ⟨A3, n3, k3, rfl, hy3, b3⟩
          have HA3 := Lib.hid hy3
          have XB := Lib.hid (Box.keep HA2.out.1 b3)
          have HB3 := Lib.hid (below_then HB2.out b3)
          obtain ⟨q2, q3, q4, q5⟩ := XB.out.use
          have lq := XB.out.lt
          clear hy3 b3 x0 x1
          go_wp2_with fail
          go_roundw
          case rel => exact ⟨0, 0, false, A3, n3, k3, L3, rfl, rfl, rfl, Lib.hid (pat_set XB.out HA3.out), Lib.hid (below_pset HB3.out HBX.out _ _), HJ3, HC3⟩
          case measure => exact Nat.succ_pos _
        · have HJ3 := Lib.hid (AllJ.more HI2.out hu)
          have HM := HS1.out hu
          have h2 : lo3 ≠ 0 ∨ (lo3 = 0 ∧ hi3 ≠ 0) := by
            by_cases h : lo3 = 0
            · exact .inr ⟨h, fun h' => hu ((pair_zero HC3.out.1 HC3.out.2).2 ⟨h, h'⟩)⟩
            · exact .inl h
          have HMM : Hid (measJ (.int .i64 lo3) (.int .i64 hi3) (.bool true) < measJ (.int .i64 low) (.int .i64 high) (.bool true)) := by
            show pairN lo3 hi3 + 1 < pairN low high + 1
            omega
          clear hu HS HS1 HI2 HM
          rcases h2 with hl0 | ⟨rfl, hh0⟩
          · have hl1 : ((lo3 : Int) != 0) = true := by simpa using hl0
            have hl2 : ((lo3 : Int) == 0) = false := by simpa using hl0
            obtain ⟨x0, x1⟩ := HA2.out.use
            go_wp2_with fail
            refine H3.out.mono ?_
            rintro e w3 ⟨A3, n3, k3, rfl, hy3, b3⟩
            have HA3 := Lib.hid hy3
            have XB := Lib.hid (Box.keep HA2.out.1 b3)
            have HB3 := Lib.hid (below_then HB2.out b3)
            obtain ⟨q2, q3, q4, q5⟩ := XB.out.use
            have lq := XB.out.lt
            clear hy3 b3 x0 x1
            go_wp2_with fail
            go_roundw
            case rel => exact ⟨lo3, hi3, true, A3, n3, k3, L3, rfl, rfl, rfl, Lib.hid (pat_set XB.out HA3.out), Lib.hid (below_pset HB3.out HBX.out _ _), HJ3, HC3⟩
            case measure => exact HMM.out
          · have hl1 : ((hi3 : Int) != 0) = true := by simpa using hh0
            have hl2 : ((hi3 : Int) == 0) = false := by simpa using hh0
            obtain ⟨x0, x1⟩ := HA2.out.use
            go_wp2_with fail
            refine H3.out.mono ?_
            rintro e w3 ⟨A3, n3, k3, rfl, hy3, b3⟩
            have HA3 := Lib.hid hy3
            have XB := Lib.hid (Box.keep HA2.out.1 b3)
            have HB3 := Lib.hid (below_then HB2.out b3)
            obtain ⟨q2, q3, q4, q5⟩ := XB.out.use
            have lq := XB.out.lt
            clear hy3 b3 x0 x1
            go_wp2_with fail
            go_roundw
            case rel => exact ⟨0, hi3, true, A3, n3, k3, L3, rfl, rfl, rfl, Lib.hid (pat_set XB.out HA3.out), Lib.hid (below_pset HB3.out HBX.out _ _), HJ3, HC3⟩
            case measure => exact HMM.out
      · obtain ⟨e1, e2⟩ := AllInv.fell HI2.out hc
        have HRC0 : Hid (c3 = RC) := e2.trans HRC.out
        have HL2 : Hid (l = RL) := e1.symm.trans HRL.out
        have hb1 : ((c3 : Int) != 0) = true := by simpa using hc
        have hb2 : ((c3 : Int) == 0) = false := by simpa using hc
        clear e1 e2 HI2 HS
        obtain ⟨x0, x1⟩ := HA2.out.use
        go_wp2_with fail
        refine H3.out.mono ?_
        rintro e w3 ⟨A3, n3, k3, rfl, hy3, b3⟩
        have XB := Lib.hid (Box.keep HA2.out.1 b3)
        obtain ⟨q2, q3, q4, q5⟩ := XB.out.use
        have lq := XB.out.lt
        have XP3 := Lib.hid (Box.keep HP.out (below_then HB2.out b3))
        have XZ3 := Lib.hid (Box.keep HX.out (below_then HB2.out b3))
        have YP := Lib.hid (pbox_far XP3.out HNE.out.1 (.slice A3 n3 k3) (.bool o))
        have YZ := Lib.hid (pbox_far XZ3.out HNE.out.2 (.slice A3 n3 k3) (.bool o))
        have HF := below_pset (below_then HB2.out b3) HBX.out (.slice A3 n3 k3) (.bool o)
        have HBF := Lib.hid (below_then HB.out HF)
        have HYF := Lib.hid (HY.out.keep HF)
        obtain ⟨wf, hwf⟩ : ∃ wf, (w3.setCell ⟨bx, 0, none⟩ (.slice A3 n3 k3)).setCell ⟨bx, 1, none⟩ (.bool o) = wf := ⟨_, rfl⟩
        rw [hwf] at YP YZ HBF HYF
        obtain ⟨z0, z1, z2, z3⟩ := YZ.out.use
        obtain ⟨p0, p1, _, _⟩ := YP.out.use
        have lz := YZ.out.lt
        have HWF := Lib.hid hwf
        clear HF hy3 b3 x0 x1 hwf
        go_upto_region 7 with fail
        rw [HWF.out]
        go_wp2_with fail
        obtain ⟨r0, r1, _, _⟩ := (PBox.put YZ.out (.slice A n c) (.bool o)).use
        refine bodyPost_ret (v := .tuple #[.agg #[.slice A n c, .bool o], .int .i64 c3]) ?_ rfl ?_
        · simp [results, Try.results22, go_sem, r0, r1]
        · rw [HRC0.out]
          exact ⟨A, n, c, rfl, byt_pset (HL2.out ▸ HYF.out) YZ.out _ _, below_pset HBF.out (by omega) _ _⟩
end Go.Proofs.Ytphbeghflbkpgaa

/- The contract of the program's End: a copy of the row, turned round. -/
namespace Go.Proofs.Ytphbeghflbkpgaa
open Go.RowKit
set_option linter.unusedVariables false
set_option linter.unusedSimpArgs false

set_option maxRecDepth 100000 in
set_option maxHeartbeats 4000000 in
theorem clone_any (A : Option Addr) (n c : Nat) (l : List UInt8) (w : World) (h : Byt w (.slice A n c) l) (hm : l.length ≤ 1000) :
    Calls Try.prog 31 #[.slice A n c] w fun e w' => ∃ v, e = .returned v ∧ BOwns w' w.heap.size v l.length l ∧ Below w.heap.size w w' := by
  have hl := h.len
  have q : ∀ w, _ := fun w => Lib.run_eql_slice_nil (P := Try.prog) w 22 5 A n c 0 0 Try.underlying22
  cases A with
  | none =>
    have hn : n = 0 := by
      rcases h.lies with h | ⟨_, _, e, _⟩
      · have := congrArg List.length h
        rw [u8s_len] at this
        have h0 : l.length = 0 := this
        omega
      · cases e
    subst hn
    obtain rfl := len_zero hl
    rw [Option.isNone_none] at q
    clear h hl
    go_enter Try.func31, Try.ntmps31
    go_wp2
    go_ret
    exact ⟨_, rfl, bowns_none _ _, Below.refl _ _⟩
  | some ad =>
    have HY := Lib.hid (h.keep (al_one w (.cells #[] 5)))
    have HN : Hid (n ≤ 1000) := by show _ ≤ _; omega
    subst hl
    rw [Option.isNone_some] at q
    clear h
    go_enter Try.func31, Try.ntmps31
    go_wp2_with (at_builtin; (refine wpList_bapp rfl _ _ rfl w.heap.size (.slice (some ⟨w.heap.size, 0, none⟩) 0 0) 0 [] rfl (none_bowns w) (some ad) l.length c l rfl HY.out (by have := HN.out; omega) (by simp) w (al_one _ _) (Nat.le_refl _) ?_; intro v1 w1 u1 u2 u3; have O1 := Lib.hid u1; have B1 := Lib.hid u2; clear u1 u2 u3))
    obtain ⟨A1, n1, c1, rfl⟩ := byt_slice O1.out.byt
    go_ret
    refine ⟨_, rfl, ?_, B1.out⟩
    have := O1.out
    rw [Nat.zero_add, List.nil_append] at this
    exact this

set_option maxRecDepth 100000 in
theorem rev_none (A : Option Addr) (c : Nat) (w : World) : Calls Try.prog 32 #[.slice A 0 c] w fun e w' => e = .returned (.tuple #[]) ∧ w = w' := by
  go_enter Try.func32, Try.ntmps32
  go_wp2
  refine wp_loop_rounds 1 ?_
  rw [rounds_succ]
  go_wp2
  refine bodyPost_end (v := .tuple #[]) ?_ rfl ?_
  · simp [results, Try.results32, go_sem]
  · exact ⟨rfl, rfl⟩

set_option maxRecDepth 100000 in
set_option maxHeartbeats 4000000 in
theorem rev_any (W w : World) (v : Value) (l : List UInt8) (h : BOwns w W.heap.size v l.length l) (hb : Below W.heap.size W w) (hm : l.length ≤ 1000) :
    Calls Try.prog 32 #[v] w fun e w' => e = .returned (.tuple #[]) ∧ Byt w' v l.reverse ∧ Below W.heap.size W w' := by
  by_cases hl : l = []
  · subst hl
    obtain ⟨A, n, c, rfl⟩ := byt_slice h.byt
    have hn := h.byt.len
    have h0 : n = 0 := hn.symm
    subst h0
    refine (rev_none A c w).mono ?_
    rintro e w' ⟨rfl, rfl⟩
    exact ⟨rfl, h.byt, hb⟩
  · refine (rev_own w W.heap.size l.length v l h hl (by omega)).mono ?_
    rintro e w' ⟨rfl, hy, hw⟩
    exact ⟨rfl, hy, hw W hb (Nat.le_refl _)⟩

set_option maxRecDepth 100000 in
set_option maxHeartbeats 4000000 in
theorem end_any (A : Option Addr) (n c : Nat) (o : Bool) (l : List UInt8) (w : World) (h : Byt w (.slice A n c) l) (hm : l.length ≤ 1000) :
    Calls Try.prog 16 #[.agg #[.slice A n c, .bool o]] w fun e w' => e = .returned (.tuple #[.string (strB (endL o l)), .int .i64 (endC o)]) ∧ Below w.heap.size w w' := by
  cases o with
  | false =>
    have H1 : Hid (strB (endL false l) = ⟨#[]⟩) := by show _ = _; unfold endL; rw [if_neg (by simp)]; rfl
    have H2 : Hid (endC false = -17) := rfl
    rw [H1.out, H2.out]
    clear h hm
    go_enter Try.func16, Try.ntmps16
    go_wp2
    go_ret2
    exact ⟨rfl, al_one _ _⟩
  | true =>
    have H1 : Hid (endL true l = l.reverse) := by show _ = _; unfold endL; rw [if_pos rfl]
    have H2 : Hid (endC true = 0) := rfl
    rw [H1.out, H2.out]
    obtain ⟨W, hW⟩ : ∃ W, w.alloc (.cells #[.slice A n c, .bool true] 24) = W := ⟨_, rfl⟩
    have hB := al_one w (.cells #[.slice A n c, .bool true] 24)
    rw [hW] at hB
    have HB := Lib.hid hB
    have HW := Lib.hid hW
    have HC := Lib.hid (clone_any A n c l W (h.keep hB) hm)
    have HM := Lib.hid hm
    clear h hB hW hm
    go_enter Try.func16, Try.ntmps16
    go_wp2_with fail
    rw [HW.out]
    refine HC.out.mono ?_
    rintro e w1 ⟨v, rfl, ho, b1⟩
    have HR := Lib.hid (rev_any W w1 v l ho b1 HM.out)
    clear ho b1 HC
    go_wp2_with fail
    refine HR.out.mono ?_
    rintro e w2 ⟨rfl, hy, b2⟩
    have HBB := Lib.hid (below_then HB.out b2)
    obtain ⟨A', n', c', rfl⟩ := byt_slice hy
    have cv := conv_any hy
    clear hy b2 HR
    go_wp2_with fail
    go_ret2
    exact ⟨rfl, HBB.out⟩
end Go.Proofs.Ytphbeghflbkpgaa

/- The head of all statements of layer 7: the document's example comes out. -/
namespace Go.Proofs.Ytphbeghflbkpgaa
open Go.RowKit
set_option linter.unusedVariables false
set_option linter.unusedSimpArgs false

theorem f123 : figs 123 0 10 = [49, 50, 51] := by
  unfold figs
  rw [show pairN 123 0 = 123 by decide +kernel, show (10 : Int).toNat = 10 from rfl, usF_big (by omega) (by omega), usF_big (by omega) (by omega), usF_low (by omega)]
  decide +kernel
theorem p7a : allL true [] 123 0 10 = [51, 50, 49] ∧ allC true [] 123 0 10 = 0 := by
  have h : allOK true [] 123 0 10 = true := by unfold allOK; rw [f123]; decide
  constructor
  · unfold allL; rw [if_pos h, f123]; rfl
  · unfold allC; rw [if_pos (by decide), if_pos h]
theorem p7s : signL true [51, 50, 49] (-1) = [51, 50, 49, 45] ∧ signC true [51, 50, 49] (-1) = 0 := by decide +kernel
theorem p7e : strB (endL true [51, 50, 49, 45]) = ⟨#[45, 49, 50, 51]⟩ ∧ endC true = 0 := ⟨rfl, rfl⟩
theorem p7d : digL true [] 0 1 16 = [48] ∧ digLo true [] 0 1 16 = 1152921504606846976 ∧ digHi true [] 0 1 16 = 0 ∧ digC true [] 16 = 0 := by decide +kernel
theorem p7h : holdC false [] = -17 := by decide
theorem p7r : pRight true [51, 50, 49, 45] = true ∧ pRight false [1] = false := by decide
theorem p7m : pSame true [51, 50, 49] true [51, 50, 49] = true ∧ pSame true [51, 50, 49] true [51, 50, 49, 45] = false := by decide
set_option maxRecDepth 100000 in
set_option maxHeartbeats 8000000 in
theorem shown_any7 (w : World) : Calls Try.prog 9 #[] w fun e w' => e = .returned (.bool true) ∧ Below w.heap.size w w' := by
  go_enter Try.func9, Try.ntmps9
  have B0 : Hid (Below w.heap.size w w) := Below.refl _ _
  go_wp2_with fail
  refine (begin_any _).mono ?_
  rintro e w1 ⟨A0, n0, c0, rfl, hy, bb⟩
  have B1 := Lib.hid (below_then B0.out bb)
  have S1 := Lib.hid hy
  clear bb B0 hy
  go_wp2_with fail
  refine (all_any _ _ _ true [] 123 0 10 _ S1.out (by simp) (by unfold cellR; omega) (by unfold cellR; omega) (by unfold cellR; omega)).mono ?_
  rw [p7a.1, p7a.2]
  rintro e w2 ⟨A1, n1, c1, rfl, hy, bb⟩
  have Sp := Lib.hid (S1.out.keep bb)
  have S2 := Lib.hid (Sp.out.keep (al_one _ (.cells #[.slice A1 n1 c1, .bool true] 24)))
  have B2 := Lib.hid (below_then (below_then B1.out bb) (al_one _ (.cells #[.slice A1 n1 c1, .bool true] 24)))
  have P2 := Lib.hid (pat_new (o := true) hy)
  clear bb S1 B1 hy
  clear S2 Sp
  go_wp2_with fail
  refine (sign_any _ _ _ true [51, 50, 49] (-1) _ P2.out.byt (by simp)).mono ?_
  rw [p7s.1, p7s.2]
  rintro e w3 ⟨A2, n2, c2, rfl, hy, bb⟩
  have Pp := Lib.hid (P2.out.keep bb)
  have P3 := Lib.hid (Pp.out.keep (al_one _ (.cells #[.slice A2 n2 c2, .bool true] 24)))
  have B3 := Lib.hid (below_then (below_then B2.out bb) (al_one _ (.cells #[.slice A2 n2 c2, .bool true] 24)))
  have Q3 := Lib.hid (pat_new (o := true) hy)
  clear bb P2 B2 hy
  obtain ⟨cP0, cP1⟩ := Pp.out.use
  have lP := Pp.out.lt
  go_wp2_with fail
  refine (end_any _ _ _ true [51, 50, 49, 45] _ Q3.out.byt (by simp)).mono ?_
  rw [p7e.1, p7e.2]
  rintro e w4 ⟨rfl, bb⟩
  clear Pp
  have P4 := Lib.hid (P3.out.keep bb)
  have Q4 := Lib.hid (Q3.out.keep bb)
  have B4 := Lib.hid (below_then B3.out bb)
  clear bb cP0 cP1 lP P3 Q3 B3
  obtain ⟨cP0, cP1⟩ := P4.out.use
  obtain ⟨cQ0, cQ1⟩ := Q4.out.use
  go_wp2_with fail
  refine (begin_any _).mono ?_
  rintro e w5 ⟨A3, n3, c3, rfl, hy, bb⟩
  have P5 := Lib.hid (P4.out.keep bb)
  have Q5 := Lib.hid (Q4.out.keep bb)
  have B5 := Lib.hid (below_then B4.out bb)
  have S5 := Lib.hid hy
  clear bb cP0 cP1 cQ0 cQ1 P4 Q4 B4 hy
  obtain ⟨cP0, cP1⟩ := P5.out.use
  obtain ⟨cQ0, cQ1⟩ := Q5.out.use
  go_wp2_with fail
  refine (dig_any _ _ _ true [] 0 1 16 _ S5.out (by simp) (by unfold cellR; omega) (by unfold cellR; omega) (by unfold cellR; omega)).mono ?_
  rw [p7d.1, p7d.2.1, p7d.2.2.1, p7d.2.2.2]
  rintro e w6 ⟨A4, n4, c4, rfl, hy, bb⟩
  have Pp := Lib.hid (P5.out.keep bb)
  have P6 := Lib.hid (Pp.out.keep (al_one _ (.cells #[.slice A4 n4 c4, .bool true] 24)))
  have Qp := Lib.hid (Q5.out.keep bb)
  have Q6 := Lib.hid (Qp.out.keep (al_one _ (.cells #[.slice A4 n4 c4, .bool true] 24)))
  have Sp := Lib.hid (S5.out.keep bb)
  have S6 := Lib.hid (Sp.out.keep (al_one _ (.cells #[.slice A4 n4 c4, .bool true] 24)))
  have B6 := Lib.hid (below_then (below_then B5.out bb) (al_one _ (.cells #[.slice A4 n4 c4, .bool true] 24)))
  have R6 := Lib.hid (pat_new (o := true) hy)
  clear bb cP0 cP1 cQ0 cQ1 P5 Q5 S5 B5 hy
  clear S6 Sp
  obtain ⟨cP0, cP1⟩ := Pp.out.use
  have lP := Pp.out.lt
  obtain ⟨cQ0, cQ1⟩ := Qp.out.use
  have lQ := Qp.out.lt
  go_wp2_with fail
  refine (hold_any _ _ _ false [] 65 _ (byt_nil _) (by simp)).mono ?_
  rw [p7h]
  rintro e w7 ⟨A5, n5, c5, rfl, hy, bb⟩
  clear Pp Qp
  have Pp := Lib.hid (P6.out.keep bb)
  have P7 := Lib.hid (Pp.out.keep (al_one _ (.cells #[.slice A5 n5 c5, .bool false] 24)))
  have Qp := Lib.hid (Q6.out.keep bb)
  have Q7 := Lib.hid (Qp.out.keep (al_one _ (.cells #[.slice A5 n5 c5, .bool false] 24)))
  have Rp := Lib.hid (R6.out.keep bb)
  have R7 := Lib.hid (Rp.out.keep (al_one _ (.cells #[.slice A5 n5 c5, .bool false] 24)))
  have B7 := Lib.hid (below_then (below_then B6.out bb) (al_one _ (.cells #[.slice A5 n5 c5, .bool false] 24)))
  have H7 := Lib.hid (pat_new (o := false) hy)
  clear bb cP0 cP1 lP cQ0 cQ1 lQ P6 Q6 R6 B6 hy
  clear H7
  obtain ⟨cP0, cP1⟩ := Pp.out.use
  have lP := Pp.out.lt
  obtain ⟨cQ0, cQ1⟩ := Qp.out.use
  have lQ := Qp.out.lt
  obtain ⟨cR0, cR1⟩ := Rp.out.use
  have lR := Rp.out.lt
  have cv := (R7.out.byt).conv
  rw [show strB [48] = ⟨#[48]⟩ from rfl] at cv
  clear R7 Rp
  go_wp2_with fail
  refine (right_any _ _ _ true [51, 50, 49, 45] _ Q7.out.byt).mono ?_
  rw [p7r.1]
  rintro e w8 ⟨rfl, bb⟩
  clear Pp Qp
  have P8 := Lib.hid (P7.out.keep bb)
  have Q8 := Lib.hid (Q7.out.keep bb)
  have B8 := Lib.hid (below_then B7.out bb)
  clear bb cP0 cP1 lP cQ0 cQ1 lQ cR0 cR1 lR P7 Q7 B7
  obtain ⟨cP0, cP1⟩ := P8.out.use
  obtain ⟨cQ0, cQ1⟩ := Q8.out.use
  go_wp2_with fail
  refine (right_any _ _ _ false [1] _ (byt_one w8 1)).mono ?_
  rw [p7r.2]
  rintro e w9 ⟨rfl, bb⟩
  replace bb := al_then bb
  have P9 := Lib.hid (P8.out.keep bb)
  have Q9 := Lib.hid (Q8.out.keep bb)
  have B9 := Lib.hid (below_then B8.out bb)
  clear bb cv cP0 cP1 cQ0 cQ1 P8 Q8 B8
  obtain ⟨cP0, cP1⟩ := P9.out.use
  obtain ⟨cQ0, cQ1⟩ := Q9.out.use
  go_wp2_with fail
  refine (same_any _ _ _ _ _ _ true true [51, 50, 49] [51, 50, 49] _ P9.out.byt P9.out.byt).mono ?_
  rw [p7m.1]
  rintro e w10 ⟨rfl, bb⟩
  have P10 := Lib.hid (P9.out.keep bb)
  have Q10 := Lib.hid (Q9.out.keep bb)
  have B10 := Lib.hid (below_then B9.out bb)
  clear bb cP0 cP1 cQ0 cQ1 P9 Q9 B9
  obtain ⟨cP0, cP1⟩ := P10.out.use
  obtain ⟨cQ0, cQ1⟩ := Q10.out.use
  go_wp2_with fail
  refine (same_any _ _ _ _ _ _ true true [51, 50, 49] [51, 50, 49, 45] _ P10.out.byt Q10.out.byt).mono ?_
  rw [p7m.2]
  rintro e w11 ⟨rfl, bb⟩
  have P11 := Lib.hid (P10.out.keep bb)
  have Q11 := Lib.hid (Q10.out.keep bb)
  have B11 := Lib.hid (below_then B10.out bb)
  clear bb cP0 cP1 cQ0 cQ1 P10 Q10 B10
  clear P11
  clear Q11
  go_wp2_with fail
  go_ret
  exact ⟨rfl, B11.out⟩
end Go.Proofs.Ytphbeghflbkpgaa

/- What the arguments of layer 7's statements hold. -/
namespace Go.Proofs.Ytphbeghflbkpgaa
open Go.ChangeShapes Go.WideShapes Go.ChangeAt Go.RowKit Go.Joins Go.Deep
set_option linter.unusedVariables false
set_option linter.unusedSimpArgs false

/-- A row of numbers lies at an address. -/
def nums (l : List Int) : List Value := l.map fun n => .int .i64 n
theorem nums_len (l : List Int) : (nums l).length = l.length := by simp [nums]
def NRow (w : World) (A : Option Addr) (n c : Nat) (l : List Int) : Prop := l.length = n ∧ n ≤ c ∧ c ≤ maxLen ∧ Lies w A (nums l)
theorem NRow.keep {w w' : World} {A : Option Addr} {n c : Nat} {l : List Int} (h : NRow w A n c l) (b : Below w.heap.size w w') : NRow w' A n c l := ⟨h.1, h.2.1, h.2.2.1, h.2.2.2.keep b⟩
theorem NRow.cell {w : World} {A : Option Addr} {n c : Nat} {l : List Int} (h : NRow w A n c l) {k : Nat} (hk : k < l.length) : ∃ g o, A = some ⟨g, o, none⟩ ∧ w.cell? ⟨g, o + k, none⟩ = some (.int .i64 l[k]) := by
  rcases h.2.2.2 with h | ⟨g, o, e, _, hc⟩
  · have := congrArg List.length h
    rw [nums_len] at this
    have h0 : l.length = 0 := this
    omega
  · exact ⟨g, o, e, hc k _ (by simp [nums, hk])⟩
section
variable {H : Type} {enc : TypeId × Value → H} {w : World}
theorem open_nrow {fuel : Nat} {v : Value} {x : DataW H × List MemPlace} (h : DataW.trod enc Try.prog w 0 (fun _ => true) true fuel 55 [v] = some x) : ∃ A n c l, v = .slice A n c ∧ NRow w A n c l := by
  rcases open_ints Try.underlying55 Try.underlying3 (by kernel_rfl) h with ⟨hcs, _⟩ | ⟨a, len, cap, zs, hcs, _, hl, hm, hz, _, hcell, hwz⟩
  · simp at hcs
    exact ⟨_, _, _, [], hcs, rfl, Nat.le_refl _, Nat.zero_le _, .inl rfl⟩
  · simp at hcs hz
    refine ⟨_, _, _, zs.take len, hcs, by simp; omega, hl, hm, ?_⟩
    by_cases h0 : len = 0
    · subst h0; exact .inl (by simp [nums])
    · obtain ⟨b, off, rfl, hb⟩ := plain_of (hcell 0 (by omega))
      refine .inr ⟨b, off, rfl, hb, fun j v hv => ?_⟩
      have hj : j < len := by have := (List.getElem?_eq_some_iff.1 hv).1; rw [nums_len] at this; simp at this; omega
      have hjz : j < zs.length := by omega
      have hc := hcell j hjz
      rw [add_at] at hc
      rw [hc]
      simp [nums, hj, hjz] at hv
      rw [← hv]
      simp [List.getD, List.getElem?_eq_getElem hjz]
set_option maxRecDepth 100000 in
theorem open_pic {fuel : Nat} {cs : List Value} {x : DataW H × List MemPlace} (h : DataW.trod enc Try.prog w 0 (fun _ => true) true fuel 24 cs = some x) : ∃ B_B l_B e_B b_B o_On, cs = [.slice B_B l_B e_B, .bool o_On] ∧ Byt w (.slice B_B l_B e_B) b_B := by
  obtain ⟨ys, n, _, _, hlen, hyl, hf⟩ := DataW.trod_struct Try.underlying24 h
  have h2 : cs.length = 2 := hlen.trans (by kernel_rfl)
  have hy2 : ys.length = 2 := hyl
  match cs, h2 with
  | [c0, c1], _ =>
    have f0 : DataW.trod enc Try.prog w 0 (fun _ => true) true n 22 (([c0, c1].drop 0).take (Try.prog.cellsOf 22)) = ys[0]? := hf 0 _ rfl
    rw [show Try.prog.cellsOf 22 = 1 by kernel_rfl] at f0
    rw [show ys[0]? = some (ys[0]'(by omega)) from List.getElem?_eq_getElem _] at f0
    have f1 : DataW.trod enc Try.prog w 0 (fun _ => true) true n 4 (([c0, c1].drop 1).take (Try.prog.cellsOf 4)) = ys[1]? := hf 1 _ rfl
    rw [show Try.prog.cellsOf 4 = 1 by kernel_rfl] at f1
    rw [show ys[1]? = some (ys[1]'(by omega)) from List.getElem?_eq_getElem _] at f1
    obtain ⟨b0, hb0⟩ := open_byt f0
    obtain ⟨B0, l0, z0, e0⟩ := hb0.slice
    have e0' : c0 = .slice B0 l0 z0 := e0
    subst e0'
    obtain ⟨p1, e1, _⟩ := DataW.trod_bool Try.underlying4 f1
    have e1' : c1 = .bool p1 := by simpa using e1
    subst e1'
    exact ⟨B0, l0, z0, b0, p1, rfl, hb0⟩
set_option maxRecDepth 100000 in
theorem open_picLaysIn {fuel : Nat} {cs : List Value} {x : DataW H × List MemPlace} (h : DataW.trod enc Try.prog w 0 (fun _ => true) true fuel 35 cs = some x) : ∃ A_p L_p c_p o_p l_p j_lo j_hi j_base, cs = [.slice A_p L_p c_p, .bool o_p, .int .i64 j_lo, .int .i64 j_hi, .int .i64 j_base] ∧ Byt w (.slice A_p L_p c_p) l_p ∧ (Lit.int .i64 j_lo).wf = true ∧ (Lit.int .i64 j_hi).wf = true ∧ (Lit.int .i64 j_base).wf = true := by
  obtain ⟨ys, n, _, _, hlen, hyl, hf⟩ := DataW.trod_struct Try.underlying35 h
  have h2 : cs.length = 5 := hlen.trans (by kernel_rfl)
  have hy2 : ys.length = 4 := hyl
  match cs, h2 with
  | [c0, c1, c2, c3, c4], _ =>
    have f0 : DataW.trod enc Try.prog w 0 (fun _ => true) true n 24 (([c0, c1, c2, c3, c4].drop 0).take (Try.prog.cellsOf 24)) = ys[0]? := hf 0 _ rfl
    rw [show Try.prog.cellsOf 24 = 2 by kernel_rfl] at f0
    rw [show ys[0]? = some (ys[0]'(by omega)) from List.getElem?_eq_getElem _] at f0
    have f1 : DataW.trod enc Try.prog w 0 (fun _ => true) true n 3 (([c0, c1, c2, c3, c4].drop 2).take (Try.prog.cellsOf 3)) = ys[1]? := hf 1 _ rfl
    rw [show Try.prog.cellsOf 3 = 1 by kernel_rfl] at f1
    rw [show ys[1]? = some (ys[1]'(by omega)) from List.getElem?_eq_getElem _] at f1
    have f2 : DataW.trod enc Try.prog w 0 (fun _ => true) true n 3 (([c0, c1, c2, c3, c4].drop 3).take (Try.prog.cellsOf 3)) = ys[2]? := hf 2 _ rfl
    rw [show Try.prog.cellsOf 3 = 1 by kernel_rfl] at f2
    rw [show ys[2]? = some (ys[2]'(by omega)) from List.getElem?_eq_getElem _] at f2
    have f3 : DataW.trod enc Try.prog w 0 (fun _ => true) true n 3 (([c0, c1, c2, c3, c4].drop 4).take (Try.prog.cellsOf 3)) = ys[3]? := hf 3 _ rfl
    rw [show Try.prog.cellsOf 3 = 1 by kernel_rfl] at f3
    rw [show ys[3]? = some (ys[3]'(by omega)) from List.getElem?_eq_getElem _] at f3
    obtain ⟨A0, L0, g0, m0, p0, e0, hm0⟩ := open_pic f0
    obtain ⟨rfl, rfl⟩ : c0 = .slice A0 L0 g0 ∧ c1 = .bool p0 := by simpa using e0
    obtain ⟨p1, e1, _, w1⟩ := DataW.trod_int Try.underlying3 f1
    have e1' : c2 = .int .i64 p1 := by simpa using e1
    subst e1'
    obtain ⟨p2, e2, _, w2⟩ := DataW.trod_int Try.underlying3 f2
    have e2' : c3 = .int .i64 p2 := by simpa using e2
    subst e2'
    obtain ⟨p3, e3, _, w3⟩ := DataW.trod_int Try.underlying3 f3
    have e3' : c4 = .int .i64 p3 := by simpa using e3
    subst e3'
    exact ⟨A0, L0, g0, p0, m0, p1, p2, p3, rfl, hm0, w1, w2, w3⟩
set_option maxRecDepth 100000 in
theorem open_picStepsIn {fuel : Nat} {cs : List Value} {x : DataW H × List MemPlace} (h : DataW.trod enc Try.prog w 0 (fun _ => true) true fuel 57 cs = some x) : ∃ A_p L_p c_p o_p l_p j_lo j_hi j_base, cs = [.slice A_p L_p c_p, .bool o_p, .int .i64 j_lo, .int .i64 j_hi, .int .i64 j_base] ∧ Byt w (.slice A_p L_p c_p) l_p ∧ (Lit.int .i64 j_lo).wf = true ∧ (Lit.int .i64 j_hi).wf = true ∧ (Lit.int .i64 j_base).wf = true := by
  obtain ⟨ys, n, _, _, hlen, hyl, hf⟩ := DataW.trod_struct Try.underlying57 h
  have h2 : cs.length = 5 := hlen.trans (by kernel_rfl)
  have hy2 : ys.length = 4 := hyl
  match cs, h2 with
  | [c0, c1, c2, c3, c4], _ =>
    have f0 : DataW.trod enc Try.prog w 0 (fun _ => true) true n 24 (([c0, c1, c2, c3, c4].drop 0).take (Try.prog.cellsOf 24)) = ys[0]? := hf 0 _ rfl
    rw [show Try.prog.cellsOf 24 = 2 by kernel_rfl] at f0
    rw [show ys[0]? = some (ys[0]'(by omega)) from List.getElem?_eq_getElem _] at f0
    have f1 : DataW.trod enc Try.prog w 0 (fun _ => true) true n 3 (([c0, c1, c2, c3, c4].drop 2).take (Try.prog.cellsOf 3)) = ys[1]? := hf 1 _ rfl
    rw [show Try.prog.cellsOf 3 = 1 by kernel_rfl] at f1
    rw [show ys[1]? = some (ys[1]'(by omega)) from List.getElem?_eq_getElem _] at f1
    have f2 : DataW.trod enc Try.prog w 0 (fun _ => true) true n 3 (([c0, c1, c2, c3, c4].drop 3).take (Try.prog.cellsOf 3)) = ys[2]? := hf 2 _ rfl
    rw [show Try.prog.cellsOf 3 = 1 by kernel_rfl] at f2
    rw [show ys[2]? = some (ys[2]'(by omega)) from List.getElem?_eq_getElem _] at f2
    have f3 : DataW.trod enc Try.prog w 0 (fun _ => true) true n 3 (([c0, c1, c2, c3, c4].drop 4).take (Try.prog.cellsOf 3)) = ys[3]? := hf 3 _ rfl
    rw [show Try.prog.cellsOf 3 = 1 by kernel_rfl] at f3
    rw [show ys[3]? = some (ys[3]'(by omega)) from List.getElem?_eq_getElem _] at f3
    obtain ⟨A0, L0, g0, m0, p0, e0, hm0⟩ := open_pic f0
    obtain ⟨rfl, rfl⟩ : c0 = .slice A0 L0 g0 ∧ c1 = .bool p0 := by simpa using e0
    obtain ⟨p1, e1, _, w1⟩ := DataW.trod_int Try.underlying3 f1
    have e1' : c2 = .int .i64 p1 := by simpa using e1
    subst e1'
    obtain ⟨p2, e2, _, w2⟩ := DataW.trod_int Try.underlying3 f2
    have e2' : c3 = .int .i64 p2 := by simpa using e2
    subst e2'
    obtain ⟨p3, e3, _, w3⟩ := DataW.trod_int Try.underlying3 f3
    have e3' : c4 = .int .i64 p3 := by simpa using e3
    subst e3'
    exact ⟨A0, L0, g0, p0, m0, p1, p2, p3, rfl, hm0, w1, w2, w3⟩
end
end Go.Proofs.Ytphbeghflbkpgaa
