/- Part 20. -/
import Derived.Test.YtlgnijhemfkflaaGreatDoorSetPrimDividesZero
import Derived.Test.YtlgnijhemfkflaaGreatDoorSetPrimDividesS
import Derived.Test.YtlgnijhemfkflaaGreatDoorSetPrimDividesF
import Derived.WalkSpells
import Derived.Test.YtlgnijhemfkflaaGreatDoorSetPrimDividesA
import Derived.WalkKit
import Derived.Test.YtlgnijhemfkflaaGreatDoorRows
import Derived.WalkLawsBesides
import Derived.Deep.QuietTactic
import Derived.BigQuiet
import Derived.Lib.Hide
import Derived.WideShapes
set_option linter.unusedVariables false
set_option linter.unusedSimpArgs false

namespace Go.Proofs.YtlgnijhemfkflaaGreatDoor
open Go.RowKit
set_option linter.unusedVariables false
set_option linter.unusedSimpArgs false
def AllJ (o : Bool) (l : List UInt8) (lo hi b : Int) (l' : List UInt8) (low high : Int) (more : Bool) : Prop :=
  (more = true ∧ l'.length ≤ 1000 ∧ AllInv o l lo hi b (digL o l' low high b) (pairN (digLo o l' low high b) (digHi o l' low high b)) (digC o l' b)) ∨ (more = false ∧ AllInv o l lo hi b l' 0 0)
def measJ (low high more : Value) : Nat := match more with
  | .bool true => pairN (intOf low) (intOf high) + 1
  | _ => 0
theorem AllJ.start {o : Bool} {l : List UInt8} {lo hi b : Int} (hm : l.length ≤ 1000) : AllJ o l lo hi b l lo hi true := .inl ⟨rfl, hm, inv_start hm⟩
theorem AllJ.len {o : Bool} {l l' : List UInt8} {lo hi b low high : Int} (h : AllJ o l lo hi b l' low high true) : l'.length ≤ 1000 := by
  rcases h with ⟨_, h, _⟩ | ⟨h, _⟩
  · exact h
  · cases h
theorem AllJ.inv {o : Bool} {l l' : List UInt8} {lo hi b low high : Int} (h : AllJ o l lo hi b l' low high true) : AllInv o l lo hi b (digL o l' low high b) (pairN (digLo o l' low high b) (digHi o l' low high b)) (digC o l' b) := by
  rcases h with ⟨_, _, h⟩ | ⟨h, _⟩
  · exact h
  · cases h
theorem AllJ.done {o : Bool} {l l' : List UInt8} {lo hi b low high : Int} (h : AllJ o l lo hi b l' low high false) : l' = allL o l lo hi b ∧ allC o l lo hi b = 0 := by
  rcases h with ⟨h, _⟩ | ⟨_, h⟩
  · cases h
  · exact AllInv.done h
theorem AllJ.more {o : Bool} {l l' : List UInt8} {lo hi b low high : Int} (h : AllInv o l lo hi b l' (pairN low high) 0) (h0 : pairN low high ≠ 0) : AllJ o l lo hi b l' low high true := .inl ⟨rfl, h.len, h.next h0⟩
theorem AllJ.last {o : Bool} {l l' : List UInt8} {lo hi b : Int} (h : AllInv o l lo hi b l' (pairN 0 0) 0) : AllJ o l lo hi b l' 0 0 false := .inr ⟨rfl, h⟩
theorem digC_ok {o : Bool} {l : List UInt8} {b : Int} (h : digC o l b = 0) : baseB b = true ∧ pOpen o l = true := by
  unfold digC holdC at h;cases hb : baseB b with
  | false => rw [hb] at h; simp at h
  | true =>
    refine ⟨rfl, ?_⟩;cases hk : pOpen o l with
    | false => rw [hb, hk] at h; simp at h
    | true => rfl
theorem dig_smaller {o : Bool} {l : List UInt8} {low high b : Int} (h : digC o l b = 0) (h0 : pairN (digLo o l low high b) (digHi o l low high b) ≠ 0) : pairN (digLo o l low high b) (digHi o l low high b) < pairN low high := by
  obtain ⟨hb, hk⟩ := digC_ok h;obtain ⟨_, e1, e2, _⟩ := dig_ok hb hk low high;rw [e1, e2, pair_back (div_lt _ _ (pairN_lt _ _))] at h0 ⊢;refine Nat.div_lt_self ?_ (base_nat hb).1
  rcases Nat.eq_zero_or_pos (pairN low high) with h | h
  · rw [h, Nat.zero_div] at h0; exact absurd rfl h0
  · exact h
set_option maxRecDepth 100000 in
set_option maxHeartbeats 4000000 in
theorem all_any (A : Option Addr) (n c : Nat) (o : Bool) (l : List UInt8) (lo hi b : Int) (w : World) (h : Byt w (.slice A n c) l) (hm : l.length ≤ 1000) (hlo : cellR lo) (hhi : cellR hi) (hb : cellR b) :
    Calls Tryz.prog 244 #[.agg #[.slice A n c, .bool o], .int .i64 lo, .int .i64 hi, .int .i64 b] w (PicOut o (allL o l lo hi b) (allC o l lo hi b) w) := by
  have HJ := Lib.hid (AllJ.start (lo := lo) (hi := hi) (b := b) (o := o) hm);have HC1 : Hid (cellR lo ∧ cellR hi) := ⟨hlo, hhi⟩;have HD : Hid (∀ (a : World) (A : Option Addr) (n c : Nat) (l : List UInt8) (lo hi : Int), Byt a (.slice A n c) l → l.length ≤ 1000 → cellR lo → cellR hi → Calls Tryz.prog 243 #[.agg #[.slice A n c, .bool o], .int .i64 lo, .int .i64 hi, .int .i64 b] a (DigOut o (digL o l lo hi b) (digLo o l lo hi b) (digHi o l lo hi b) (digC o l b) a)) := fun a A n c l lo hi h hm h1 h2 => dig_any A n c o l lo hi b a h hm h1 h2 hb
  obtain ⟨o1, ho1⟩ : ∃ o1 : Obj, .cells #[.slice A n c, .bool o] 32 = o1 := ⟨_, rfl⟩;obtain ⟨o2, ho2⟩ : ∃ o2 : Obj, .cells #[.slice none 0 0, .bool false] 32 = o2 := ⟨_, rfl⟩;obtain ⟨W, hW⟩ : ∃ W, (w.alloc o1).alloc o2 = W := ⟨_, rfl⟩;have kk := al_two w o1 o2;have hx : PBox ((w.alloc o1).alloc o2) w.heap.size A n c o ∧ PBox ((w.alloc o1).alloc o2) (w.heap.size + 1) none 0 0 false := by rw [← ho1, ← ho2]; exact box_two _ _ _ _ _ _ _
  have hs : W.heap.size = w.heap.size + 1 + 1 := by rw [← hW]; simp
  rw [hW] at kk hx;obtain ⟨V, hV⟩ : ∃ V, W.alloc o1 = V := ⟨_, rfl⟩;have hVb : Below W.heap.size W V := by rw [← hV]; exact al_one _ _
  have HA0 : Hid (PAt W.heap.size A n c o l V) := by rw [← hV, ← ho1]; exact pat_new (h.keep kk)
  have HB := Lib.hid kk;have HB1 := Lib.hid hVb;have HX := Lib.hid hx.2;have HP := Lib.hid hx.1;have HW : Hid (((w.alloc o1).alloc o2).alloc o1 = V) := by show _ = _; rw [hW, hV]
  have HY := Lib.hid (h.keep kk);obtain ⟨RL, eRL⟩ : ∃ x, allL o l lo hi b = x := ⟨_, rfl⟩;obtain ⟨RC, eRC⟩ : ∃ x, allC o l lo hi b = x := ⟨_, rfl⟩;have HRL := Lib.hid eRL;have HRC := Lib.hid eRC;rw [eRL, eRC];rw [hs] at HA0;obtain ⟨bx, ebx⟩ : ∃ x, w.heap.size + 1 + 1 = x := ⟨_, rfl⟩;rw [ebx] at HA0;have HBX : Hid (W.heap.size ≤ bx) := by show _ ≤ _; omega
  have HNE : Hid (w.heap.size ≠ bx ∧ w.heap.size + 1 ≠ bx) := by show _ ∧ _; omega
  clear h kk hx hW hlo hhi eRL eRC hV hVb hs;subst ho1 ho2;go_enter Tryz.func244, Tryz.ntmps244;(go_wp2_with fail);rw [HW.out];clear ebx
  go_loopw [1, 2, 11] (fun s1 s2 s11 wr => ∃ (low high : Int) (more : Bool) (A2 : Option Addr) (n2 c2 : Nat) (l2 : List UInt8), s1 = .int .i64 low ∧ s2 = .int .i64 high ∧ s11 = .bool more ∧ Hid (PAt bx A2 n2 c2 o l2 wr) ∧ Hid (Below W.heap.size W wr) ∧ Hid (AllJ o l lo hi b l2 low high more) ∧ Hid (cellR low ∧ cellR high)) (fun s1 s2 s11 _ => measJ s1 s2 s11)
  case atStart => exact ⟨lo, hi, true, A, n, c, l, rfl, rfl, rfl, HA0, HB1, HJ, HC1⟩
  case round =>
    clear HA0 HB1 HJ HC1;obtain ⟨low, high, more, A2, n2, c2, l2, rfl, rfl, rfl, HA2, HB2, HJ2, HC2⟩ := hrel;obtain ⟨x0, x1⟩ := HA2.out.use;have XP := Lib.hid (Box.keep HP.out HB2.out);have XZ := Lib.hid (Box.keep HX.out HB2.out);have HBB := Lib.hid (below_then HB.out HB2.out);cases more with
    | false =>
      obtain ⟨e1, e2⟩ := AllJ.done HJ2.out;have HRC0 : Hid (RC = 0) := HRC.out.symm.trans e2;have HL2 : Hid (l2 = RL) := e1.trans HRL.out;obtain ⟨z0, z1, z2, z3⟩ := XZ.out.use;have lz := XZ.out.lt;clear e1 e2 HJ2;(go_wp2_with fail);obtain ⟨r0, r1, _, _⟩ := (PBox.put XZ.out (.slice A2 n2 c2) (.bool o)).use;refine bodyPost_ret (v := .tuple #[.agg #[.slice A2 n2 c2, .bool o], .int .i64 0]) ?_ rfl ?_
      · simp [results, Tryz.results244, go_sem, r0, r1]
      · rw [HRC0.out]
        exact ⟨A2, n2, c2, rfl, byt_pset (HL2.out ▸ HA2.out.byt) XZ.out _ _, below_pset HBB.out (by omega) _ _⟩
    | true =>
      have HI2 := Lib.hid (AllJ.inv HJ2.out);have HC3 : Hid (cellR (digLo o l2 low high b) ∧ cellR (digHi o l2 low high b)) := ⟨digLo_cell HC2.out.1, digHi_cell HC2.out.2⟩;have HS := Lib.hid (dig_smaller (o := o) (l := l2) (low := low) (high := high) (b := b));have H3 := Lib.hid (HD.out _ A2 n2 c2 l2 low high HA2.out.byt (AllJ.len HJ2.out) HC2.out.1 HC2.out.2);obtain ⟨L3, eL3⟩ : ∃ x, digL o l2 low high b = x := ⟨_, rfl⟩;obtain ⟨lo3, elo3⟩ : ∃ x, digLo o l2 low high b = x := ⟨_, rfl⟩;obtain ⟨hi3, ehi3⟩ : ∃ x, digHi o l2 low high b = x := ⟨_, rfl⟩;obtain ⟨c3, ec3⟩ : ∃ x, digC o l2 b = x := ⟨_, rfl⟩;rw [eL3, elo3, ehi3, ec3] at HI2 H3;rw [elo3, ehi3] at HC3 HS;rw [ec3] at HS;clear eL3 elo3 ehi3 ec3 HJ2 HC2 x0 x1
      by_cases hc : c3 = 0
      · subst hc
        have HS1 := Lib.hid (HS.out rfl)
        by_cases hu : pairN lo3 hi3 = 0
        · obtain ⟨rfl, rfl⟩ := (pair_zero HC3.out.1 HC3.out.2).1 hu
          have HJ3 := Lib.hid (AllJ.last HI2.out);clear hu HS HS1 HI2;obtain ⟨x0, x1⟩ := HA2.out.use;(go_wp2_with fail);refine H3.out.mono ?_;rintro e w3 ⟨A3, n3, k3, rfl, hy3, b3⟩;have HA3 := Lib.hid hy3;have XB := Lib.hid (Box.keep HA2.out.1 b3);have HB3 := Lib.hid (below_then HB2.out b3);obtain ⟨q2, q3, q4, q5⟩ := XB.out.use;have lq := XB.out.lt;clear hy3 b3 x0 x1;(go_wp2_with fail)
          go_roundw
          case rel => exact ⟨0, 0, false, A3, n3, k3, L3, rfl, rfl, rfl, Lib.hid (pat_set XB.out HA3.out), Lib.hid (below_pset HB3.out HBX.out _ _), HJ3, HC3⟩
          case measure => exact Nat.succ_pos _
        · have HJ3 := Lib.hid (AllJ.more HI2.out hu)
          have HM := HS1.out hu;have h2 : lo3 ≠ 0 ∨ (lo3 = 0 ∧ hi3 ≠ 0) := by
            by_cases h : lo3 = 0
            · exact .inr ⟨h, fun h' => hu ((pair_zero HC3.out.1 HC3.out.2).2 ⟨h, h'⟩)⟩
            · exact .inl h
          have HMM : Hid (measJ (.int .i64 lo3) (.int .i64 hi3) (.bool true) < measJ (.int .i64 low) (.int .i64 high) (.bool true)) := by
            show pairN lo3 hi3 + 1 < pairN low high + 1;omega
          clear hu HS HS1 HI2 HM
          rcases h2 with hl0 | ⟨rfl, hh0⟩
          · have hl1 : ((lo3 : Int) != 0) = true := by simpa using hl0
            have hl2 : ((lo3 : Int) == 0) = false := by simpa using hl0
            obtain ⟨x0, x1⟩ := HA2.out.use;(go_wp2_with fail);refine H3.out.mono ?_;rintro e w3 ⟨A3, n3, k3, rfl, hy3, b3⟩;have HA3 := Lib.hid hy3;have XB := Lib.hid (Box.keep HA2.out.1 b3);have HB3 := Lib.hid (below_then HB2.out b3);obtain ⟨q2, q3, q4, q5⟩ := XB.out.use;have lq := XB.out.lt;clear hy3 b3 x0 x1;(go_wp2_with fail)
            go_roundw
            case rel => exact ⟨lo3, hi3, true, A3, n3, k3, L3, rfl, rfl, rfl, Lib.hid (pat_set XB.out HA3.out), Lib.hid (below_pset HB3.out HBX.out _ _), HJ3, HC3⟩
            case measure => exact HMM.out
          · have hl1 : ((hi3 : Int) != 0) = true := by simpa using hh0
            have hl2 : ((hi3 : Int) == 0) = false := by simpa using hh0
            obtain ⟨x0, x1⟩ := HA2.out.use;(go_wp2_with fail);refine H3.out.mono ?_;rintro e w3 ⟨A3, n3, k3, rfl, hy3, b3⟩;have HA3 := Lib.hid hy3;have XB := Lib.hid (Box.keep HA2.out.1 b3);have HB3 := Lib.hid (below_then HB2.out b3);obtain ⟨q2, q3, q4, q5⟩ := XB.out.use;have lq := XB.out.lt;clear hy3 b3 x0 x1;(go_wp2_with fail)
            go_roundw
            case rel => exact ⟨0, hi3, true, A3, n3, k3, L3, rfl, rfl, rfl, Lib.hid (pat_set XB.out HA3.out), Lib.hid (below_pset HB3.out HBX.out _ _), HJ3, HC3⟩
            case measure => exact HMM.out
      · obtain ⟨e1, e2⟩ := AllInv.fell HI2.out hc
        have HRC0 : Hid (c3 = RC) := e2.trans HRC.out;have HL2 : Hid (l = RL) := e1.symm.trans HRL.out;have hb1 : ((c3 : Int) != 0) = true := by simpa using hc
        have hb2 : ((c3 : Int) == 0) = false := by simpa using hc
        clear e1 e2 HI2 HS;obtain ⟨x0, x1⟩ := HA2.out.use;(go_wp2_with fail);refine H3.out.mono ?_;rintro e w3 ⟨A3, n3, k3, rfl, hy3, b3⟩;have XB := Lib.hid (Box.keep HA2.out.1 b3);obtain ⟨q2, q3, q4, q5⟩ := XB.out.use;have lq := XB.out.lt;have XP3 := Lib.hid (Box.keep HP.out (below_then HB2.out b3));have XZ3 := Lib.hid (Box.keep HX.out (below_then HB2.out b3));have YP := Lib.hid (pbox_far XP3.out HNE.out.1 (.slice A3 n3 k3) (.bool o));have YZ := Lib.hid (pbox_far XZ3.out HNE.out.2 (.slice A3 n3 k3) (.bool o));have HF := below_pset (below_then HB2.out b3) HBX.out (.slice A3 n3 k3) (.bool o);have HBF := Lib.hid (below_then HB.out HF);have HYF := Lib.hid (HY.out.keep HF);obtain ⟨wf, hwf⟩ : ∃ wf, (w3.setCell ⟨bx, 0, none⟩ (.slice A3 n3 k3)).setCell ⟨bx, 1, none⟩ (.bool o) = wf := ⟨_, rfl⟩;rw [hwf] at YP YZ HBF HYF;obtain ⟨z0, z1, z2, z3⟩ := YZ.out.use;obtain ⟨p0, p1, _, _⟩ := YP.out.use;have lz := YZ.out.lt;have HWF := Lib.hid hwf;clear HF hy3 b3 x0 x1 hwf;go_upto_region 7 with fail
        rw [HWF.out];(go_wp2_with fail);obtain ⟨r0, r1, _, _⟩ := (PBox.put YZ.out (.slice A n c) (.bool o)).use;refine bodyPost_ret (v := .tuple #[.agg #[.slice A n c, .bool o], .int .i64 c3]) ?_ rfl ?_
        · simp [results, Tryz.results244, go_sem, r0, r1]
        · rw [HRC0.out]
          exact ⟨A, n, c, rfl, byt_pset (HL2.out ▸ HYF.out) YZ.out _ _, below_pset HBF.out (by omega) _ _⟩
end Go.Proofs.YtlgnijhemfkflaaGreatDoor

namespace Go.Proofs.YtlgnijhemfkflaaGreatDoor
open Go.RowKit
set_option linter.unusedVariables false
set_option linter.unusedSimpArgs false
set_option maxRecDepth 100000 in
set_option maxHeartbeats 4000000 in
theorem clone_any (A : Option Addr) (n c : Nat) (l : List UInt8) (w : World) (h : Byt w (.slice A n c) l) (hm : l.length ≤ 1000) :
    Calls Tryz.prog 287 #[.slice A n c] w fun e w' => ∃ v, e = .returned v ∧ BOwns w' w.heap.size v l.length l ∧ Below w.heap.size w w' := by
  have hl := h.len;have q : ∀ w, _ := fun w => Lib.run_eql_slice_nil (P := Tryz.prog) w 24 5 A n c 0 0 Tryz.underlying24
  cases A with
  | none =>
    have hn : n = 0 := by
      rcases h.lies with h | ⟨_, _, e, _⟩
      · have := congrArg List.length h
        rw [u8s_len] at this;have h0 : l.length = 0 := this;omega
      · cases e
    subst hn;obtain rfl := len_zero hl;rw [Option.isNone_none] at q;clear h hl;go_enter Tryz.func287, Tryz.ntmps287;go_wp2;go_ret;exact ⟨_, rfl, bowns_none _ _, Below.refl _ _⟩
  | some ad =>
    have HY := Lib.hid (h.keep (al_one w (.cells #[] 5)));have HN : Hid (n ≤ 1000) := by show _ ≤ _; omega
    subst hl;rw [Option.isNone_some] at q;clear h;go_enter Tryz.func287, Tryz.ntmps287;(go_wp2_with (at_builtin; (refine wpList_bapp rfl _ _ rfl w.heap.size (.slice (some ⟨w.heap.size, 0, none⟩) 0 0) 0 [] rfl (none_bowns w) (some ad) l.length c l rfl HY.out (by have := HN.out; omega) (by simp) w (al_one _ _) (Nat.le_refl _) ?_; intro v1 w1 u1 u2 u3; have O1 := Lib.hid u1; have B1 := Lib.hid u2; clear u1 u2 u3)));obtain ⟨A1, n1, c1, rfl⟩ := byt_slice O1.out.byt;go_ret;refine ⟨_, rfl, ?_, B1.out⟩;have := O1.out;rw [Nat.zero_add, List.nil_append] at this;exact this
set_option maxRecDepth 100000 in
theorem rev_none (A : Option Addr) (c : Nat) (w : World) : Calls Tryz.prog 239 #[.slice A 0 c] w fun e w' => e = .returned (.tuple #[]) ∧ w = w' := by
  go_enter Tryz.func239, Tryz.ntmps239;go_wp2;refine wp_loop_rounds 1 ?_;rw [rounds_succ];go_wp2;refine bodyPost_end (v := .tuple #[]) ?_ rfl ?_
  · simp [results, Tryz.results239, go_sem]
  · exact ⟨rfl, rfl⟩
set_option maxRecDepth 100000 in
set_option maxHeartbeats 4000000 in
theorem rev_any (W w : World) (v : Value) (l : List UInt8) (h : BOwns w W.heap.size v l.length l) (hb : Below W.heap.size W w) (hm : l.length ≤ 1000) :
    Calls Tryz.prog 239 #[v] w fun e w' => e = .returned (.tuple #[]) ∧ Byt w' v l.reverse ∧ Below W.heap.size W w' := by
  by_cases hl : l = []
  · subst hl
    obtain ⟨A, n, c, rfl⟩ := byt_slice h.byt;have hn := h.byt.len;have h0 : n = 0 := hn.symm;subst h0;refine (rev_none A c w).mono ?_;rintro e w' ⟨rfl, rfl⟩;exact ⟨rfl, h.byt, hb⟩
  · refine (rev_own w W.heap.size l.length v l h hl (by omega)).mono ?_
    rintro e w' ⟨rfl, hy, hw⟩;exact ⟨rfl, hy, hw W hb (Nat.le_refl _)⟩
set_option maxRecDepth 100000 in
set_option maxHeartbeats 4000000 in
theorem end_any (A : Option Addr) (n c : Nat) (o : Bool) (l : List UInt8) (w : World) (h : Byt w (.slice A n c) l) (hm : l.length ≤ 1000) :
    Calls Tryz.prog 246 #[.agg #[.slice A n c, .bool o]] w fun e w' => e = .returned (.tuple #[.string (strB (endL o l)), .int .i64 (endC o)]) ∧ Below w.heap.size w w' := by
  cases o with
  | false =>
    have H1 : Hid (strB (endL false l) = ⟨#[]⟩) := by show _ = _; unfold endL; rw [if_neg (by simp)]; rfl
    have H2 : Hid (endC false = -17) := rfl;rw [H1.out, H2.out];clear h hm;go_enter Tryz.func246, Tryz.ntmps246;go_wp2;go_ret2;exact ⟨rfl, al_one _ _⟩
  | true =>
    have H1 : Hid (endL true l = l.reverse) := by show _ = _; unfold endL; rw [if_pos rfl]
    have H2 : Hid (endC true = 0) := rfl;rw [H1.out, H2.out];obtain ⟨W, hW⟩ : ∃ W, w.alloc (.cells #[.slice A n c, .bool true] 32) = W := ⟨_, rfl⟩;have hB := al_one w (.cells #[.slice A n c, .bool true] 32);rw [hW] at hB;have HB := Lib.hid hB;have HW := Lib.hid hW;have HC := Lib.hid (clone_any A n c l W (h.keep hB) hm);have HM := Lib.hid hm;clear h hB hW hm;go_enter Tryz.func246, Tryz.ntmps246;(go_wp2_with fail);rw [HW.out];refine HC.out.mono ?_;rintro e w1 ⟨v, rfl, ho, b1⟩;have HR := Lib.hid (rev_any W w1 v l ho b1 HM.out);clear ho b1 HC;(go_wp2_with fail);refine HR.out.mono ?_;rintro e w2 ⟨rfl, hy, b2⟩;have HBB := Lib.hid (below_then HB.out b2);obtain ⟨A', n', c', rfl⟩ := byt_slice hy;have cv := conv_any hy;clear hy b2 HR;(go_wp2_with fail);go_ret2;exact ⟨rfl, HBB.out⟩
end Go.Proofs.YtlgnijhemfkflaaGreatDoor

namespace Go.Proofs.YtlgnijhemfkflaaGreatDoor
open Go.RowKit
set_option linter.unusedVariables false
set_option linter.unusedSimpArgs false
def shl (a b : Int) : Int := if un b ≤ 63 then wrap64 (a * 2 ^ un b) else 0
def shr (a b : Int) : Int := if un b ≤ 63 then wrap64 ((un a / 2 ^ un b : Nat) : Int) else 0
def tellN (is : Bool) (x y : Int) : Int := if is = true then x else y
def yes (is : Bool) : Int := tellN is (-1) 0
def turnedF (l : List UInt8) (a : Int) : Option Int :=
  if l = [65, 66, 83] then some (if a < 0 then wrap64 (-a) else a) else
  if l = [78, 69, 71, 65, 84, 69] then some (wrap64 (-a)) else
  if l = [73, 78, 86, 69, 82, 84] then some (-1 - a) else
  if l = [49, 43] then some (wrap64 (a + 1)) else
  if l = [49, 45] then some (wrap64 (a - 1)) else
  if l = [67, 69, 76, 76, 83] then some (wrap64 (8 * a)) else
  if l = [50, 42] then some (wrap64 (a + a)) else
  if l = [50, 47] then some (a / 2) else
  if l = [67, 69, 76, 76, 43] then some (wrap64 (a + 8)) else
  if l = [65, 76, 73, 71, 78, 69, 68] then some (wrap64 ((a + 7) / 8 * 8)) else
  none
def asked1F (l : List UInt8) (a : Int) : Option Int :=
  if l = [48, 60, 62] then some (yes (a != 0)) else
  if l = [48, 61] then some (yes (a == 0)) else
  if l = [48, 60] then some (yes (decide (a < 0))) else
  if l = [48, 62] then some (yes (decide (0 < a))) else
  none
def oneF (l : List UInt8) (a : Int) : Option Int := (turnedF l a).or (asked1F l a)
def divF (l : List UInt8) (a b : Int) : Option Int :=
  if l = [47] then some (dq a b) else
  if l = [77, 79, 68] then some (dr a b) else
  none
def divC (l : List UInt8) (b : Int) : Int := if l = [47] ∨ l = [77, 79, 68] then dc b else 0
def joinedF (l : List UInt8) (a b : Int) : Option Int :=
  if l = [45] then some (wrap64 (a - b)) else
  if l = [43] then some (wrap64 (a + b)) else
  if l = [42] then some (wrap64 (a * b)) else
  if l = [65, 78, 68] then some (bits .and .i64 a b) else
  if l = [79, 82] then some (bits .or .i64 a b) else
  if l = [88, 79, 82] then some (bits .xor .i64 a b) else
  if l = [76, 83, 72, 73, 70, 84] then some (shl a b) else
  if l = [82, 83, 72, 73, 70, 84] then some (shr a b) else
  if l = [77, 73, 78] then some (if b < a then b else a) else
  if l = [77, 65, 88] then some (if a < b then b else a) else
  none
def asked2F (l : List UInt8) (a b : Int) : Option Int :=
  if l = [60, 62] then some (yes (a != b)) else
  if l = [61] then some (yes (a == b)) else
  if l = [62] then some (yes (decide (b < a))) else
  if l = [60] then some (yes (decide (a < b))) else
  if l = [62, 61] then some (yes (decide (b ≤ a))) else
  if l = [60, 61] then some (yes (decide (a ≤ b))) else
  if l = [85, 62] then some (yes (decide (un b < un a))) else
  if l = [85, 60] then some (yes (decide (un a < un b))) else
  none
def twoF (l : List UInt8) (a b : Int) : Option Int := (divF l a b).or ((joinedF l a b).or (asked2F l a b))
end Go.Proofs.YtlgnijhemfkflaaGreatDoor

namespace Go.Proofs.YtlgnijhemfkflaaGreatDoor
open Go.RowKit
set_option linter.unusedVariables false
set_option linter.unusedSimpArgs false
def bv (a : Int) : BitVec 64 := BitVec.ofInt 64 a
theorem bv_un (a : Int) : (bv a).toNat = un a := by
  have h := un_mod a;unfold bv;rw [BitVec.toNat_ofInt];omega
theorem wrap_toNat (x : BitVec 64) : wrap64 (x.toNat : Int) = x.toInt := by
  have := x.isLt;rw [BitVec.toInt_eq_toNat_cond];unfold wrap64
  split <;> omega
theorem i64_wrap (n : Int) : IntKind.i64.wrap n = wrap64 n := IntWalk.i64_left n
theorem bits_xor (a b : Int) : bits .xor .i64 a b = (bv a ^^^ bv b).toInt := by rw [← wrap_toNat, ← i64_wrap]; rfl
theorem bits_andNot (a b : Int) : bits .andNot .i64 a b = (bv a &&& ~~~ bv b).toInt := by rw [← wrap_toNat, ← i64_wrap]; rfl
theorem inv_eq (a : Int) (ha : cellR a) : bits .xor .i64 (-1) a = -1 - a := by
  have e : bv (-1) = BitVec.allOnes 64 := by decide
  rw [bits_xor, e, BitVec.allOnes_xor, ← wrap_toNat, BitVec.toNat_not, bv_un];have := un_mod a;have := un_lt a;unfold wrap64;unfold cellR at ha;omega
theorem split_and (x m : BitVec 64) : (x &&& m) + (x &&& ~~~ m) = x := by
  rw [BitVec.add_eq_or_of_and_eq_zero]
  · ext i; simp; cases x[i] <;> cases m[i] <;> rfl
  · ext i; simp; cases x[i] <;> cases m[i] <;> simp
theorem and7 (x : BitVec 64) : (x &&& 7#64).toNat = x.toNat % 8 := by
  rw [BitVec.toNat_and];exact Nat.and_two_pow_sub_one_eq_mod x.toNat 3
theorem aligned_eq (a : Int) (_ha : cellR a) : bits .andNot .i64 (wrap64 (wrap64 (a + 8) - 1)) 7 = wrap64 ((a + 7) / 8 * 8) := by
  rw [bits_andNot, ← wrap_toNat];have e : bv 7 = 7#64 := by decide
  rw [e];have h := split_and (bv (wrap64 (wrap64 (a + 8) - 1))) 7#64;have h7 := and7 (bv (wrap64 (wrap64 (a + 8) - 1)));have h2 := congrArg BitVec.toNat h;rw [BitVec.toNat_add, h7, bv_un] at h2;have h3 := un_mod (wrap64 (wrap64 (a + 8) - 1));have h4 := (bv (wrap64 (wrap64 (a + 8) - 1)) &&& ~~~ 7#64).isLt;generalize (bv (wrap64 (wrap64 (a + 8) - 1)) &&& ~~~ 7#64).toNat = z at *;generalize un (wrap64 (wrap64 (a + 8) - 1)) = u at *;unfold wrap64 at *;omega
theorem sub_eq (a b : Int) : wrap64 (a + wrap64 (-b)) = wrap64 (a - b) := by unfold wrap64; omega
theorem wrap_mod64 {x y : Int} (h : (x - y) % 18446744073709551616 = 0) : wrap64 x = wrap64 y := by unfold wrap64; omega
theorem shl_eq (a b : Int) : wrap64 (IntKind.u64.wrap (IntKind.u64.wrap a * 2 ^ min (IntKind.u64.wrap b).toNat 64)) = shl a b := by
  have e : (IntKind.u64.wrap b).toNat = un b := rfl;rw [e, IntKind.wrap_u64, IntKind.wrap_u64];unfold shl
  split
  · rename_i h
    rw [Nat.min_eq_left (by omega)];refine wrap_mod64 ?_;have h1 : a % 18446744073709551616 * 2 ^ un b = a * 2 ^ un b - 18446744073709551616 * (a / 18446744073709551616 * 2 ^ un b) := by
      rw [Int.emod_def, Int.sub_mul, Int.mul_assoc]
    rw [h1];omega
  · rw [Nat.min_eq_right (by omega), show (2 : Int) ^ 64 = 18446744073709551616 by decide]
    unfold wrap64;omega
theorem shr_eq (a b : Int) : wrap64 (IntKind.u64.wrap a / 2 ^ min (IntKind.u64.wrap b).toNat 64) = shr a b := by
  have e : (IntKind.u64.wrap b).toNat = un b := rfl;rw [e, un_cast];unfold shr
  split
  · rename_i h
    rw [Nat.min_eq_left (by omega), Int.natCast_ediv, Int.natCast_pow];rfl
  · have := un_lt a
    rw [Nat.min_eq_right (by omega), show (2 : Int) ^ 64 = 18446744073709551616 by decide];unfold wrap64;omega
end Go.Proofs.YtlgnijhemfkflaaGreatDoor

namespace Go.Proofs.YtlgnijhemfkflaaGreatDoor
open Go.RowKit
set_option linter.unusedVariables false
set_option linter.unusedSimpArgs false
theorem ret_intA {k : IntKind} {a b : Int} (h : a = b) : Ending.returned (.int k a) = .returned (.int k b) := by rw [h]
theorem ret_boolA {a b : Bool} (h : a = b) : Ending.returned (.bool a) = .returned (.bool b) := by rw [h]
theorem ret_threeA {k l m : IntKind} {a b c d e f : Int} (h : a = d) (g : b = e) (i : c = f) : Ending.returned (.tuple #[.int k a, .int l b, .int m c]) = .returned (.tuple #[.int k d, .int l e, .int m f]) := by rw [h, g, i]
theorem ret_ibA {k : IntKind} {a c : Int} {b d : Bool} (h : a = c) (g : b = d) : Ending.returned (.tuple #[.int k a, .bool b]) = .returned (.tuple #[.int k c, .bool d]) := by rw [h, g]
theorem drew_belowA (w : World) (n : Nat) : Below w.heap.size w (w.drewN n) := ⟨rfl, rfl, rfl, Nat.le_refl _, fun _ _ => rfl⟩
set_option maxHeartbeats 400000 in
theorem uless_anyA (a b : Int) (w : World) :
    Calls Tryz.prog 214 #[.int .i64 a, .int .i64 b] w fun e w' => e = .returned (.bool (decide (un a < un b))) ∧ w = w' := by
  go_enter Tryz.func214, Tryz.ntmps214;go_wp2;go_ret;exact ⟨ret_boolA (by rw [un_cast, un_cast]; simp), rfl⟩
set_option maxHeartbeats 400000 in
theorem leansUp_anyA (a b : Int) (w : World) :
    Calls Tryz.prog 206 #[.int .i64 a, .int .i64 b] w fun e w' => e = .returned (.bool (leans a b)) ∧ w = w' := by
  go_enter Tryz.func206, Tryz.ntmps206;go_wp2
  all_goals go_ret
  · exact ⟨ret_boolA (by subst_vars; simp [leans]), rfl⟩
  · exact ⟨ret_boolA (by simp [leans, bne]), rfl⟩
set_option maxHeartbeats 400000 in
theorem div_anyA (a b : Int) (w : World) (ha : cellR a) (hb : cellR b) :
    Calls Tryz.prog 85 #[.int .i64 a, .int .i64 b] w fun e w' => e = .returned (.tuple #[.int .i64 (dq a b), .int .i64 (dr a b), .int .i64 (dc b)]) ∧ Below w.heap.size w w' := by
  have HA := Lib.hid ha;have HB := Lib.hid hb;clear ha hb
  by_cases h : b = 0
  · have hb0 : (b == 0) = true := by simp [h]
    have H := Lib.hid h;clear h;go_enter Tryz.func85, Tryz.ntmps85;go_wp2
    go_ret3
    exact ⟨ret_threeA (by simp [dq, H.out]) (by simp [dr, H.out]) (by simp [dc, H.out]), Below.refl _ _⟩
  · have hb0 : (b == 0) = false := by simp [h]
    by_cases hl : leans (a.tmod b) b = true
    · go_enter Tryz.func85, Tryz.ntmps85
      go_wp2
      go_quiet (fail)
      (go_wp2_with (go_at_call 206; refine (leansUp_anyA _ _ _).mono ?_; rintro e w' ⟨rfl, rfl⟩))
      go_ret3
      exact ⟨ret_threeA (by simp [dq, h, hl]) (by rw [wrap_in (leans_sum a b h HB.out hl)]; simp [dr, h, hl]) (by simp [dc, h]), drew_belowA _ _⟩
    · replace hl : leans (a.tmod b) b = false := by simpa using hl
      go_enter Tryz.func85, Tryz.ntmps85;go_wp2
      go_quiet (fail)
      (go_wp2_with (go_at_call 206; refine (leansUp_anyA _ _ _).mono ?_; rintro e w' ⟨rfl, rfl⟩))
      go_ret3
      exact ⟨ret_threeA (by simp [dq, h, hl]) (by simp [dr, h, hl]) (by simp [dc, h]), drew_belowA _ _⟩
end Go.Proofs.YtlgnijhemfkflaaGreatDoor

namespace Go.Proofs.YtlgnijhemfkflaaGreatDoor
open Go.RowKit
set_option linter.unusedVariables false
set_option linter.unusedSimpArgs false
theorem str_of {s : ByteArray} {l : List UInt8} (h : s.data.toList = l) : s = ⟨l.toArray⟩ := Go.WideShapes.bytes_inj (by rw [h])
theorem str_noA {s : ByteArray} {l : List UInt8} (h : ¬ s.data.toList = l) : (s.toList == l) = false := by rw [ByteArray.toList_eq]; simpa using h
set_option maxHeartbeats 400000 in
theorem turned_ABS (a : Int) (w : World) (ha : cellR a) :
    Calls Tryz.prog 204 #[.string ⟨#[65, 66, 83]⟩, .int .i64 a] w fun e w' => e = .returned (.tuple #[.int .i64 (if a < 0 then wrap64 (-a) else a), .bool true]) ∧ w = w' := by
  go_enter Tryz.func204, Tryz.ntmps204;go_wp2
  all_goals go_ret2
  all_goals exact ⟨ret_ibA (by first | rfl | (split <;> first | rfl | omega)) rfl, rfl⟩
set_option maxHeartbeats 400000 in
theorem turned_NEGATE (a : Int) (w : World) (ha : cellR a) :
    Calls Tryz.prog 204 #[.string ⟨#[78, 69, 71, 65, 84, 69]⟩, .int .i64 a] w fun e w' => e = .returned (.tuple #[.int .i64 (wrap64 (-a)), .bool true]) ∧ w = w' := by
  go_enter Tryz.func204, Tryz.ntmps204;go_wp2
  all_goals go_ret2
  all_goals exact ⟨ret_ibA (by rfl) rfl, rfl⟩
set_option maxHeartbeats 400000 in
theorem turned_INVERT (a : Int) (w : World) (ha : cellR a) :
    Calls Tryz.prog 204 #[.string ⟨#[73, 78, 86, 69, 82, 84]⟩, .int .i64 a] w fun e w' => e = .returned (.tuple #[.int .i64 (-1 - a), .bool true]) ∧ w = w' := by
  go_enter Tryz.func204, Tryz.ntmps204;go_wp2
  all_goals go_ret2
  all_goals exact ⟨ret_ibA (by exact inv_eq a ha) rfl, rfl⟩
set_option maxHeartbeats 400000 in
theorem turned_1Plus (a : Int) (w : World) (ha : cellR a) :
    Calls Tryz.prog 204 #[.string ⟨#[49, 43]⟩, .int .i64 a] w fun e w' => e = .returned (.tuple #[.int .i64 (wrap64 (a + 1)), .bool true]) ∧ w = w' := by
  go_enter Tryz.func204, Tryz.ntmps204;go_wp2
  all_goals go_ret2
  all_goals exact ⟨ret_ibA (by rfl) rfl, rfl⟩
set_option maxHeartbeats 400000 in
theorem turned_1Minus (a : Int) (w : World) (ha : cellR a) :
    Calls Tryz.prog 204 #[.string ⟨#[49, 45]⟩, .int .i64 a] w fun e w' => e = .returned (.tuple #[.int .i64 (wrap64 (a - 1)), .bool true]) ∧ w = w' := by
  go_enter Tryz.func204, Tryz.ntmps204;go_wp2
  all_goals go_ret2
  all_goals exact ⟨ret_ibA (by rfl) rfl, rfl⟩
set_option maxHeartbeats 400000 in
theorem turned_CELLS (a : Int) (w : World) (ha : cellR a) :
    Calls Tryz.prog 204 #[.string ⟨#[67, 69, 76, 76, 83]⟩, .int .i64 a] w fun e w' => e = .returned (.tuple #[.int .i64 (wrap64 (8 * a)), .bool true]) ∧ w = w' := by
  go_enter Tryz.func204, Tryz.ntmps204;go_wp2
  all_goals go_ret2
  all_goals exact ⟨ret_ibA (by simp only [wrap64]; omega) rfl, rfl⟩
set_option maxHeartbeats 400000 in
theorem turned_2Star (a : Int) (w : World) (ha : cellR a) :
    Calls Tryz.prog 204 #[.string ⟨#[50, 42]⟩, .int .i64 a] w fun e w' => e = .returned (.tuple #[.int .i64 (wrap64 (a + a)), .bool true]) ∧ w = w' := by
  go_enter Tryz.func204, Tryz.ntmps204;go_wp2
  all_goals go_ret2
  all_goals exact ⟨ret_ibA (by rfl) rfl, rfl⟩
set_option maxHeartbeats 400000 in
theorem turned_2Slash (a : Int) (w : World) (ha : cellR a) :
    Calls Tryz.prog 204 #[.string ⟨#[50, 47]⟩, .int .i64 a] w fun e w' => e = .returned (.tuple #[.int .i64 (a / 2), .bool true]) ∧ w = w' := by
  go_enter Tryz.func204, Tryz.ntmps204;go_wp2
  all_goals go_ret2
  all_goals exact ⟨ret_ibA (by rfl) rfl, rfl⟩
set_option maxHeartbeats 400000 in
theorem turned_CELLPlus (a : Int) (w : World) (ha : cellR a) :
    Calls Tryz.prog 204 #[.string ⟨#[67, 69, 76, 76, 43]⟩, .int .i64 a] w fun e w' => e = .returned (.tuple #[.int .i64 (wrap64 (a + 8)), .bool true]) ∧ w = w' := by
  go_enter Tryz.func204, Tryz.ntmps204;go_wp2
  all_goals go_ret2
  all_goals exact ⟨ret_ibA (by rfl) rfl, rfl⟩
set_option maxHeartbeats 400000 in
theorem turned_ALIGNED (a : Int) (w : World) (ha : cellR a) :
    Calls Tryz.prog 204 #[.string ⟨#[65, 76, 73, 71, 78, 69, 68]⟩, .int .i64 a] w fun e w' => e = .returned (.tuple #[.int .i64 (wrap64 ((a + 7) / 8 * 8)), .bool true]) ∧ w = w' := by
  go_enter Tryz.func204, Tryz.ntmps204;go_wp2
  all_goals go_ret2
  all_goals exact ⟨ret_ibA (by exact aligned_eq a ha) rfl, rfl⟩
set_option maxHeartbeats 400000 in
theorem turned_none (s : ByteArray) (a : Int) (w : World) (h0 : (s.toList == [65, 66, 83]) = false) (h1 : (s.toList == [78, 69, 71, 65, 84, 69]) = false) (h2 : (s.toList == [73, 78, 86, 69, 82, 84]) = false) (h3 : (s.toList == [49, 43]) = false) (h4 : (s.toList == [49, 45]) = false) (h5 : (s.toList == [67, 69, 76, 76, 83]) = false) (h6 : (s.toList == [50, 42]) = false) (h7 : (s.toList == [50, 47]) = false) (h8 : (s.toList == [67, 69, 76, 76, 43]) = false) (h9 : (s.toList == [65, 76, 73, 71, 78, 69, 68]) = false) :
    Calls Tryz.prog 204 #[.string s, .int .i64 a] w fun e w' => e = .returned (.tuple #[.int .i64 0, .bool false]) ∧ w = w' := by
  go_enter Tryz.func204, Tryz.ntmps204;go_wp2;go_ret2;exact ⟨ret_ibA rfl rfl, rfl⟩
theorem turned_any (s : ByteArray) (a : Int) (w : World) (ha : cellR a) :
    Calls Tryz.prog 204 #[.string s, .int .i64 a] w fun e w' => e = .returned (.tuple #[.int .i64 ((turnedF s.data.toList a).getD 0), .bool (turnedF s.data.toList a).isSome]) ∧ w = w' := by
  by_cases h0 : s.data.toList = [65, 66, 83]
  · obtain rfl := str_of h0
    exact turned_ABS a w ha
  by_cases h1 : s.data.toList = [78, 69, 71, 65, 84, 69]
  · obtain rfl := str_of h1
    exact turned_NEGATE a w ha
  by_cases h2 : s.data.toList = [73, 78, 86, 69, 82, 84]
  · obtain rfl := str_of h2
    exact turned_INVERT a w ha
  by_cases h3 : s.data.toList = [49, 43]
  · obtain rfl := str_of h3
    exact turned_1Plus a w ha
  by_cases h4 : s.data.toList = [49, 45]
  · obtain rfl := str_of h4
    exact turned_1Minus a w ha
  by_cases h5 : s.data.toList = [67, 69, 76, 76, 83]
  · obtain rfl := str_of h5
    exact turned_CELLS a w ha
  by_cases h6 : s.data.toList = [50, 42]
  · obtain rfl := str_of h6
    exact turned_2Star a w ha
  by_cases h7 : s.data.toList = [50, 47]
  · obtain rfl := str_of h7
    exact turned_2Slash a w ha
  by_cases h8 : s.data.toList = [67, 69, 76, 76, 43]
  · obtain rfl := str_of h8
    exact turned_CELLPlus a w ha
  by_cases h9 : s.data.toList = [65, 76, 73, 71, 78, 69, 68]
  · obtain rfl := str_of h9
    exact turned_ALIGNED a w ha
  have e : turnedF s.data.toList a = none := by simp only [turnedF, h0, h1, h2, h3, h4, h5, h6, h7, h8, h9, if_false]
  rw [e];exact turned_none s a w (str_noA h0) (str_noA h1) (str_noA h2) (str_noA h3) (str_noA h4) (str_noA h5) (str_noA h6) (str_noA h7) (str_noA h8) (str_noA h9)
end Go.Proofs.YtlgnijhemfkflaaGreatDoor
