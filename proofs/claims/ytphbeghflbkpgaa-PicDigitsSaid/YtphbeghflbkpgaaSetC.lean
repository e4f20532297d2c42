/- What the laws of this stage lean on, part 3: PicRefB, PicMath, PicRefC, PicRefD, PicRefE, PicCodeA, PicCodeB, PicCodeC. -/
import Derived.Test.YtphbeghflbkpgaaSetB
import Derived.Test.YtphbeghflbkpgaaSetA
import Derived.ArgAppend

/- Contracts of the document's Hold and Sign. -/
namespace Go.Proofs.Ytphbeghflbkpgaa
open Go.RowKit
set_option linter.unusedVariables false
set_option linter.unusedSimpArgs false

/-- What Hold answers: a text with the signs l' lies there, and a code. -/
abbrev PicOut (o : Bool) (l' : List UInt8) (k : Int) (w : World) (e : Ending) (w' : World) : Prop := ∃ A' n' c', e = .returned (.tuple #[.agg #[.slice A' n' c', .bool o], .int .i64 k]) ∧ Byt w' (.slice A' n' c') l' ∧ Below w.heap.size w w'

set_option maxRecDepth 100000 in
set_option maxHeartbeats 4000000 in
theorem rhold_any (A : Option Addr) (n c : Nat) (o : Bool) (l : List UInt8) (x : Int) (w : World) (h : Byt w (.slice A n c) l) (hm : l.length ≤ 1000) :
    Calls Try.prog 19 #[.agg #[.slice A n c, .bool o], .int .i64 x] w (PicOut o (holdL o l x) (holdC o l) w) := by
  have hl := h.len
  cases hk : pOpen o l with
  | false =>
    have hno := (pOpen_no _ _).1 hk
    have H1 : Hid (holdL o l x = l) := by show _ = _; unfold holdL; rw [if_neg (by simp [hk])]
    have H2 : Hid (holdC o l = -17) := by show _ = _; unfold holdC; rw [if_neg (by simp [hk])]
    have HB := Lib.hid (al_two w (.cells #[.slice A n c, .bool o] 24) (.cells #[.slice A n c, .bool o] 24))
    have HY := Lib.hid (h.keep HB.out)
    have hb : PBox _ _ _ _ _ _ ∧ PBox _ _ _ _ _ _ := box_two w (.slice A n c) (.bool o) (.slice A n c) (.bool o) 24 24
    obtain ⟨b3, b4, _, _⟩ := hb.2.use
    clear hb
    rw [H1.out, H2.out]
    unfold PicOut
    cases o with
    | false =>
      clear h hl hk hno
      go_enter Try.func19, Try.ntmps19
      go_wp2
      refine bodyPost_ret (v := .tuple #[.agg #[.slice A n c, .bool false], .int .i64 (-17)]) ?_ rfl ?_
      · simp [results, Try.results19, go_sem, b3, b4]
      · exact ⟨A, n, c, rfl, HY.out, HB.out⟩
    | true =>
      have h1 : (130 : Int) ≤ (n : Int) := by have := hl; simp at hno; omega
      clear h hl hk hno
      go_enter Try.func19, Try.ntmps19
      go_wp2
      refine bodyPost_ret (v := .tuple #[.agg #[.slice A n c, .bool true], .int .i64 (-17)]) ?_ rfl ?_
      · simp [results, Try.results19, go_sem, b3, b4]
      · exact ⟨A, n, c, rfl, HY.out, HB.out⟩
  | true =>
    obtain ⟨rfl, hlt⟩ := (pOpen_iff _ _).1 hk
    have H1 : Hid (holdL true l x = l ++ [byteI x]) := by show _ = _; unfold holdL; rw [if_pos hk]
    have H2 : Hid (holdC true l = 0) := by show _ = _; unfold holdC; rw [if_pos hk]
    obtain ⟨o1, ho1⟩ : ∃ o1 : Obj, .cells #[.slice A n c, .bool true] 24 = o1 := ⟨_, rfl⟩
    obtain ⟨o2, ho2⟩ : ∃ o2 : Obj, .cells #[.slice none 0 0, .bool false] 24 = o2 := ⟨_, rfl⟩
    obtain ⟨W, hW⟩ : ∃ W, (w.alloc o1).alloc o2 = W := ⟨_, rfl⟩
    have k2 := al_two w o1 o2
    have hs : W.heap.size = w.heap.size + 1 + 1 := by rw [← hW]; simp
    have hy := h.keep (k2.trans ((al_one _ (.cells #[] 5)).mono k2.size))
    have hb : PBox ((w.alloc o1).alloc o2) w.heap.size A n c true ∧ PBox ((w.alloc o1).alloc o2) (w.heap.size + 1) none 0 0 false := by rw [← ho1, ← ho2]; exact box_two _ _ _ _ _ _ _
    have hown := own_new2 w o1 o2
    rw [hW] at k2 hy hb hown
    have HB := Lib.hid k2
    have HY := Lib.hid hy
    have HO := Lib.hid hown
    have HX := Lib.hid hb.2
    have HS := Lib.hid hs
    have HW := Lib.hid hW
    have hn : decide ((130 : Int) ≤ (n : Int)) = false := by simp; omega
    have HN : Hid (n < 130 ∧ l.length = n) := ⟨by omega, hl⟩
    rw [H1.out, H2.out]
    unfold PicOut
    clear h hl hk k2 hb hown hy hlt hW hs
    subst ho1 ho2
    go_enter Try.func19, Try.ntmps19
    go_wp2_with (at_builtin; first
      | (rw [HW.out]
         refine wpList_bapp rfl _ _ rfl (w.heap.size + 1 + 1) (.slice (some ⟨w.heap.size + 1 + 1, 0, none⟩) 0 0) 0 [] rfl HO.out A n c l rfl HY.out (by have := HN.out.1; omega) (by have := HS.out; simp; omega) W (al_one _ _) (by have := HS.out; omega) ?_
         intro v1 w1 u1 u2 u3
         have O1 := Lib.hid u1
         have B1 := Lib.hid u2
         clear u1 u2 u3 HO HY)
      | (refine wpList_bapp rfl _ _ rfl (w.heap.size + 1 + 1) v1 (0 + n) ([] ++ l) rfl (O1.out.alloc _) (some ⟨w1.heap.size, 0, none⟩) 1 1 [byteI x] rfl (byt_low w1 x) (by have := HN.out.1; omega) (by have := HS.out; have := B1.out.size; simp; omega) W (alloc_then B1.out) (by have := HS.out; omega) ?_
         intro v2 w2 u1 u2 u3
         obtain ⟨A2, n2, c2, rfl⟩ := byt_slice u1.byt
         have O2 := Lib.hid u1
         have B2 := Lib.hid u2
         have X2 := Lib.hid (HX.out.keep u2)
         obtain ⟨b3, b4, b5, b6⟩ := X2.out.use
         have l3 := X2.out.lt
         clear u1 u2 u3 O1 B1))
    have X3 : PBox ((w2.setCell ⟨w.heap.size + 1, 0, none⟩ (.slice A2 n2 c2)).setCell ⟨w.heap.size + 1, 1, none⟩ (.bool true)) (w.heap.size + 1) A2 n2 c2 true := X2.out.put _ _
    obtain ⟨r0, r1, _, _⟩ := X3.use
    refine bodyPost_ret (v := .tuple #[.agg #[.slice A2 n2 c2, .bool true], .int .i64 0]) ?_ rfl ?_
    · simp [results, Try.results19, go_sem, r0, r1]
    · refine ⟨A2, n2, c2, rfl, ?_, ?_⟩
      · have := (O2.out.pset (b := w.heap.size + 1) (by omega) (.slice A2 n2 c2) (.bool true)).byt
        simpa using this
      · exact below_pset (below_then HB.out B2.out) (by omega) _ _

set_option maxRecDepth 100000 in
theorem rsign_any (A : Option Addr) (n c : Nat) (o : Bool) (l : List UInt8) (x : Int) (w : World) (h : Byt w (.slice A n c) l) (hm : l.length ≤ 1000) :
    Calls Try.prog 25 #[.agg #[.slice A n c, .bool o], .int .i64 x] w (PicOut o (signL o l x) (signC o l x) w) := by
  by_cases h0 : 0 ≤ x
  · have H1 : Hid (signL o l x = l) := by show _ = _; unfold signL; rw [if_neg (by omega)]
    have H2 : Hid (signC o l x = 0) := by show _ = _; unfold signC; rw [if_neg (by omega)]
    have HB := Lib.hid (al_two w (.cells #[.slice A n c, .bool o] 24) (.cells #[.slice A n c, .bool o] 24))
    have HY := Lib.hid (h.keep HB.out)
    have hb : PBox _ _ _ _ _ _ ∧ PBox _ _ _ _ _ _ := box_two w (.slice A n c) (.bool o) (.slice A n c) (.bool o) 24 24
    obtain ⟨b3, b4, _, _⟩ := hb.2.use
    rw [H1.out, H2.out]
    clear h hb
    go_enter Try.func25, Try.ntmps25
    go_wp2
    refine bodyPost_ret (v := .tuple #[.agg #[.slice A n c, .bool o], .int .i64 0]) ?_ rfl ?_
    · simp [results, Try.results25, go_sem, b3, b4]
    · exact ⟨A, n, c, rfl, HY.out, HB.out⟩
  · have H1 : Hid (signL o l x = holdL o l 45) := by show _ = _; unfold signL; rw [if_pos (by omega)]
    have H2 : Hid (signC o l x = holdC o l) := by show _ = _; unfold signC; rw [if_pos (by omega)]
    have h0' : decide (0 ≤ x) = false := by simp; omega
    obtain ⟨o1, ho1⟩ : ∃ o1 : Obj, .cells #[.slice A n c, .bool o] 24 = o1 := ⟨_, rfl⟩
    obtain ⟨o2, ho2⟩ : ∃ o2 : Obj, .cells #[.slice none 0 0, .bool false] 24 = o2 := ⟨_, rfl⟩
    obtain ⟨W, hW⟩ : ∃ W, (w.alloc o1).alloc o2 = W := ⟨_, rfl⟩
    have k2 := al_two w o1 o2
    have hb : PBox ((w.alloc o1).alloc o2) w.heap.size A n c o ∧ PBox ((w.alloc o1).alloc o2) (w.heap.size + 1) none 0 0 false := by rw [← ho1, ← ho2]; exact box_two _ _ _ _ _ _ _
    rw [hW] at k2 hb
    have HB := Lib.hid k2
    have HX := Lib.hid hb.2
    have HW := Lib.hid hW
    have HH := Lib.hid (rhold_any A n c o l 45 W (h.keep k2) hm)
    rw [H1.out, H2.out]
    clear h h0 k2 hb hW
    subst ho1 ho2
    go_enter Try.func25, Try.ntmps25
    go_wp2_with fail
    rw [HW.out]
    refine HH.out.mono ?_
    rintro e w1 ⟨A2, n2, c2, rfl, hy, bb⟩
    have HY := Lib.hid hy
    have B2 := Lib.hid bb
    have X2 := Lib.hid (HX.out.keep bb)
    obtain ⟨b3, b4, b5, b6⟩ := X2.out.use
    have l3 := X2.out.lt
    clear hy bb HH
    go_wp2_with fail
    have X3 : PBox ((w1.setCell ⟨w.heap.size + 1, 0, none⟩ (.slice A2 n2 c2)).setCell ⟨w.heap.size + 1, 1, none⟩ (.bool o)) (w.heap.size + 1) A2 n2 c2 o := X2.out.put _ _
    obtain ⟨r0, r1, _, _⟩ := X3.use
    refine bodyPost_ret (v := .tuple #[.agg #[.slice A2 n2 c2, .bool o], .int .i64 (holdC o l)]) ?_ rfl ?_
    · simp [results, Try.results25, go_sem, r0, r1]
    · exact ⟨A2, n2, c2, rfl, byt_pset HY.out X2.out _ _, below_pset (below_then HB.out B2.out) (by omega) _ _⟩
end Go.Proofs.Ytphbeghflbkpgaa

/- Plain facts on a pair's digits. -/
namespace Go.Proofs.Ytphbeghflbkpgaa
open Go.RowKit
set_option linter.unusedVariables false
set_option linter.unusedSimpArgs false

theorem div_pair (H L k : Nat) (hk : 0 < k) : (H * 18446744073709551616 + L) / k = H / k * 18446744073709551616 + (H % k * 18446744073709551616 + L) / k ∧ (H * 18446744073709551616 + L) % k = (H % k * 18446744073709551616 + L) % k := by
  have e := Nat.div_add_mod H k
  have e2 : H * 18446744073709551616 + L = k * (H / k * 18446744073709551616) + (H % k * 18446744073709551616 + L) := by
    conv => lhs; rw [← e]
    rw [Nat.add_mul, Nat.mul_assoc, Nat.add_assoc]
  rw [e2, Nat.mul_add_div hk, Nat.mul_add_mod]
  exact ⟨rfl, rfl⟩
theorem rest_lt (r L k : Nat) (hr : r < k) (hL : L < 18446744073709551616) : (r * 18446744073709551616 + L) / k < 18446744073709551616 := by
  rw [Nat.div_lt_iff_lt_mul (by omega)]
  have : (r + 1) * 18446744073709551616 ≤ k * 18446744073709551616 := Nat.mul_le_mul_right _ (by omega)
  rw [Nat.mul_comm 18446744073709551616 k]
  omega
theorem mod_low (t q : Nat) (h : q < 18446744073709551616) : (t * 18446744073709551616 + q) % 18446744073709551616 = q := by omega
theorem div_high (t q : Nat) (h : q < 18446744073709551616) : (t * 18446744073709551616 + q) / 18446744073709551616 = t := by omega
theorem dig_facts (lo hi : Int) (k : Nat) (h2 : 2 ≤ k) (h36 : k ≤ 36) :
    uq lo ((un hi % k : Nat) : Int) (k : Int) = lowI (pairN lo hi / k) ∧ ur lo ((un hi % k : Nat) : Int) (k : Int) = ((pairN lo hi % k : Nat) : Int) ∧ uc ((un hi % k : Nat) : Int) (k : Int) = 0 ∧ wrap64 ((un hi / k : Nat) : Int) = highI (pairN lo hi / k) := by
  have hH := un_lt hi
  have hL := un_lt lo
  obtain ⟨H, eH⟩ : ∃ H, un hi = H := ⟨_, rfl⟩
  obtain ⟨L, eL⟩ : ∃ L, un lo = L := ⟨_, rfl⟩
  unfold uq ur uc pairN
  rw [eH] at hH ⊢
  rw [eL] at hL ⊢
  obtain ⟨d1, d2⟩ := div_pair H L k (by omega)
  have hr : H % k < k := Nat.mod_lt _ (by omega)
  have hq := rest_lt (H % k) L k hr hL
  obtain ⟨r, er⟩ : ∃ r, H % k = r := ⟨_, rfl⟩
  rw [er] at d1 d2 hr hq ⊢
  have u1 : un (r : Int) = r := by have := un_mod (r : Int); omega
  have u2 : un (k : Int) = k := by have := un_mod (k : Int); omega
  have ok : uok (r : Int) (k : Int) = true := by unfold uok; rw [u1, u2]; simpa using hr
  rw [ok, u1, u2, if_pos rfl, if_pos rfl, if_pos rfl, if_neg (by omega), d1, d2]
  obtain ⟨q, eq⟩ : ∃ q, (r * 18446744073709551616 + L) / k = q := ⟨_, rfl⟩
  rw [eq] at hq ⊢
  have hm : (r * 18446744073709551616 + L) % k < k := Nat.mod_lt _ (by omega)
  obtain ⟨m, em⟩ : ∃ m, (r * 18446744073709551616 + L) % k = m := ⟨_, rfl⟩
  rw [em] at hm ⊢
  have hk : H / k < 18446744073709551616 := Nat.lt_of_le_of_lt (Nat.div_le_self _ _) hH
  obtain ⟨t, et⟩ : ∃ t, H / k = t := ⟨_, rfl⟩
  rw [et] at hk ⊢
  refine ⟨?_, ?_, rfl, ?_⟩
  · unfold lowI
    rw [mod_low t q hq]
  · exact w64_id (by omega) (by omega)
  · unfold highI
    rw [div_high t q hq]
theorem byte_dig (P k : Nat) : digF ((P % k : Nat) : Int) = ((UInt8.ofNat (digN (P % k))).toNat : Int) := dig_u8 _
theorem byteI_u8 (x : UInt8) : byteI (x.toNat : Int) = x := by
  apply UInt8.toNat_inj.1
  have := byteI_nat (x.toNat : Int)
  have := x.toNat_lt
  omega

/-- What a pair's digits are made of under way: what is left yet is u, what was laid stands behind l. -/
def AllInv (o : Bool) (l : List UInt8) (lo hi b : Int) (l' : List UInt8) (u : Nat) (bad : Int) : Prop :=
  (bad = 0 ∧ o = true ∧ baseB b = true ∧ l'.length ≤ 130 ∧ ∃ laid, l' = l ++ laid ∧ (u = 0 → figs lo hi b = laid.reverse) ∧ (u ≠ 0 → figs lo hi b = usF b.toNat u ++ laid.reverse)) ∨ (bad ≠ 0 ∧ l'.length ≤ 1000 ∧ allL o l lo hi b = l ∧ bad = allC o l lo hi b)
theorem base_nat {b : Int} (h : baseB b = true) : 2 ≤ b.toNat ∧ b.toNat ≤ 36 := by have := (baseB_iff b).1 h; omega
theorem us_one (b u : Nat) : 1 ≤ (usF b u).length := by
  have := @us_ne b u
  cases h : usF b u with
  | nil => exact absurd h this
  | cons a t => simp
theorem pall_no {o : Bool} {l : List UInt8} {lo hi b : Int} (h : allOK o l lo hi b = false) : allL o l lo hi b = l := by unfold allL; rw [if_neg (by simp [h])]
theorem div_lt (P k : Nat) (h : P < 340282366920938463463374607431768211456) : P / k < 340282366920938463463374607431768211456 := Nat.lt_of_le_of_lt (Nat.div_le_self _ _) h
theorem digOK_yes {o : Bool} {l : List UInt8} {b : Int} (hb : baseB b = true) (hk : pOpen o l = true) : digOK o l b = true := by unfold digOK; rw [hb, hk]; rfl
theorem digOK_no {o : Bool} {l : List UInt8} {b : Int} (hk : pOpen o l = false) : digOK o l b = false := by unfold digOK; rw [hk, Bool.and_false]
theorem inv_step {o : Bool} {l l' laid : List UInt8} {lo hi b low high : Int} (hb : baseB b = true) (ho : o = true) (hl : l' = l ++ laid) (hl' : l'.length ≤ 130)
    (hf : figs lo hi b = usF b.toNat (pairN low high) ++ laid.reverse) : AllInv o l lo hi b (digL o l' low high b) (pairN (digLo o l' low high b) (digHi o l' low high b)) (digC o l' b) := by
  obtain ⟨h2, h36⟩ := base_nat hb
  cases hk : pOpen o l' with
  | true =>
    have hlt := ((pOpen_iff _ _).1 hk).2
    refine .inl ⟨?_, ho, hb, ?_, laid ++ [digU low high b], ?_, ?_, ?_⟩
    · unfold digC holdC; rw [if_pos hb, if_pos hk]
    · unfold digL; rw [if_pos (digOK_yes hb hk)]; simp; omega
    · unfold digL; rw [if_pos (digOK_yes hb hk), hl]; simp
    all_goals
      unfold digLo digHi
      rw [if_pos (digOK_yes hb hk), if_pos (digOK_yes hb hk), pair_back (div_lt _ _ (pairN_lt _ _)), hf]
      intro h
    · have hlt : pairN low high < b.toNat := (Nat.div_eq_zero_iff_lt (by omega)).1 h
      rw [usF_low hlt]
      unfold digU
      rw [Nat.mod_eq_of_lt hlt]
      simp
    · have hge : b.toNat ≤ pairN low high := by
        rcases Nat.lt_or_ge (pairN low high) b.toNat with h' | h'
        · exact absurd ((Nat.div_eq_zero_iff_lt (by omega)).2 h') h
        · exact h'
      rw [usF_big h2 hge]
      unfold digU
      simp
  | false =>
    have hge : 130 ≤ l'.length := by have := (pOpen_no _ _).1 hk; simp [ho] at this; omega
    have hno : allOK o l lo hi b = false := by
      unfold allOK
      rw [hb, hf]
      have := us_one b.toNat (pairN low high)
      rw [hl] at hge
      simp at hge ⊢
      intro _
      omega
    refine .inr ⟨?_, ?_, pall_no hno, ?_⟩
    · unfold digC holdC; rw [if_pos hb, if_neg (by simp [hk])]; omega
    · unfold digL digOK; rw [hb, hk, if_neg (by simp)]; omega
    · unfold digC holdC allC; rw [if_pos hb, if_pos hb, if_neg (by simp [hk]), hno, if_neg (by simp)]
theorem inv_start {o : Bool} {l : List UInt8} {lo hi b : Int} (hm : l.length ≤ 1000) : AllInv o l lo hi b (digL o l lo hi b) (pairN (digLo o l lo hi b) (digHi o l lo hi b)) (digC o l b) := by
  cases hb : baseB b with
  | false =>
    have hno : allOK o l lo hi b = false := by unfold allOK; rw [hb]; rfl
    refine .inr ⟨?_, ?_, pall_no hno, ?_⟩
    · unfold digC; rw [if_neg (by simp [hb])]; omega
    · unfold digL digOK; rw [hb, Bool.false_and, if_neg (by simp)]; exact hm
    · unfold digC allC; rw [if_neg (by simp [hb]), if_neg (by simp [hb])]
  | true =>
    by_cases ho : o = true ∧ l.length ≤ 130
    · exact inv_step (laid := []) hb ho.1 (by simp) ho.2 (by unfold figs; simp)
    · have hk : pOpen o l = false := (pOpen_no _ _).2 (fun h => ho ⟨h.1, by omega⟩)
      have hno : allOK o l lo hi b = false := by
        unfold allOK
        rw [hb]
        simp
        intro h
        have : ¬ l.length ≤ 130 := fun h' => ho ⟨h, h'⟩
        omega
      refine .inr ⟨?_, ?_, pall_no hno, ?_⟩
      · unfold digC holdC; rw [if_pos hb, if_neg (by simp [hk])]; omega
      · unfold digL digOK; rw [hb, hk, if_neg (by simp)]; exact hm
      · unfold digC holdC allC; rw [if_pos hb, if_pos hb, if_neg (by simp [hk]), hno, if_neg (by simp)]
theorem AllInv.next {o : Bool} {l l' : List UInt8} {lo hi b low high : Int} (h : AllInv o l lo hi b l' (pairN low high) 0) (h0 : pairN low high ≠ 0) : AllInv o l lo hi b (digL o l' low high b) (pairN (digLo o l' low high b) (digHi o l' low high b)) (digC o l' b) := by
  rcases h with ⟨_, ho, hb, hl', laid, hl, _, hf⟩ | ⟨h, _⟩
  · exact inv_step hb ho hl hl' (hf h0)
  · exact absurd rfl h
theorem AllInv.smaller {o : Bool} {l l' : List UInt8} {lo hi b low high : Int} (h : AllInv o l lo hi b l' (pairN low high) 0) (h0 : pairN low high ≠ 0) : digC o l' b = 0 → pairN (digLo o l' low high b) (digHi o l' low high b) < pairN low high := by
  rcases h with ⟨_, ho, hb, hl', laid, hl, _, hf⟩ | ⟨h, _⟩
  · intro hc
    have hk : pOpen o l' = true := by
      cases hk : pOpen o l' with
      | true => rfl
      | false => unfold digC holdC at hc; rw [if_pos hb, if_neg (by simp [hk])] at hc; omega
    unfold digLo digHi
    rw [if_pos (digOK_yes hb hk), if_pos (digOK_yes hb hk), pair_back (div_lt _ _ (pairN_lt _ _))]
    exact Nat.div_lt_self (by omega) (base_nat hb).1
  · exact absurd rfl h
theorem AllInv.done {o : Bool} {l l' : List UInt8} {lo hi b : Int} (h : AllInv o l lo hi b l' 0 0) : l' = allL o l lo hi b ∧ allC o l lo hi b = 0 := by
  rcases h with ⟨_, ho, hb, hl', laid, hl, hf, _⟩ | ⟨h, _⟩
  · have hf := hf rfl
    have hok : allOK o l lo hi b = true := by
      unfold allOK
      rw [hb, hf, ho]
      rw [hl] at hl'
      simp at hl' ⊢
      exact hl'
    refine ⟨?_, ?_⟩
    · unfold allL; rw [if_pos hok, hf, hl]; simp
    · unfold allC; rw [if_pos hb, if_pos hok]
  · exact absurd rfl h
theorem AllInv.fell {o : Bool} {l l' : List UInt8} {lo hi b bad : Int} {u : Nat} (h : AllInv o l lo hi b l' u bad) (h0 : bad ≠ 0) : allL o l lo hi b = l ∧ bad = allC o l lo hi b := by
  rcases h with ⟨h, _⟩ | ⟨_, _, h⟩
  · exact absurd h h0
  · exact h
theorem AllInv.len {o : Bool} {l l' : List UInt8} {lo hi b bad : Int} {u : Nat} (h : AllInv o l lo hi b l' u bad) : l'.length ≤ 1000 := by
  rcases h with ⟨_, _, _, h, _⟩ | ⟨_, h, _⟩
  · omega
  · exact h
theorem digLo_cell {o : Bool} {l : List UInt8} {lo hi b : Int} (h : cellR lo) : cellR (digLo o l lo hi b) := by
  unfold digLo
  split
  · exact low_rng _
  · exact h
theorem digHi_cell {o : Bool} {l : List UInt8} {lo hi b : Int} (h : cellR hi) : cellR (digHi o l lo hi b) := by
  unfold digHi
  split
  · exact high_rng _
  · exact h
def measA (low high bad : Value) : Nat := if intOf bad = 0 then pairN (intOf low) (intOf high) + 1 else 0
end Go.Proofs.Ytphbeghflbkpgaa

/- The contract of the document's Digit. -/
namespace Go.Proofs.Ytphbeghflbkpgaa
open Go.RowKit
set_option linter.unusedVariables false
set_option linter.unusedSimpArgs false

/-- What Digit answers. -/
abbrev DigOut (o : Bool) (l' : List UInt8) (a b k : Int) (w : World) (e : Ending) (w' : World) : Prop := ∃ A' n' c', e = .returned (.tuple #[.agg #[.slice A' n' c', .bool o], .int .i64 a, .int .i64 b, .int .i64 k]) ∧ Byt w' (.slice A' n' c') l' ∧ Below w.heap.size w w'

theorem dig_no {o : Bool} {l : List UInt8} {b : Int} (h : baseB b = false) (lo hi : Int) : digL o l lo hi b = l ∧ digLo o l lo hi b = lo ∧ digHi o l lo hi b = hi ∧ digC o l b = -24 := by
  unfold digL digLo digHi digC digOK
  simp [h]
theorem dig_full {o : Bool} {l : List UInt8} {b : Int} (h : baseB b = true) (hk : pOpen o l = false) (lo hi : Int) : digL o l lo hi b = l ∧ digLo o l lo hi b = lo ∧ digHi o l lo hi b = hi ∧ digC o l b = -17 := by
  unfold digL digLo digHi digC digOK holdC
  simp [h, hk]
theorem dig_ok {o : Bool} {l : List UInt8} {b : Int} (h : baseB b = true) (hk : pOpen o l = true) (lo hi : Int) : digL o l lo hi b = l ++ [digU lo hi b] ∧ digLo o l lo hi b = lowI (pairN lo hi / b.toNat) ∧ digHi o l lo hi b = highI (pairN lo hi / b.toNat) ∧ digC o l b = 0 := by
  unfold digL digLo digHi digC digOK holdC
  simp [h, hk]

set_option maxRecDepth 100000 in
set_option maxHeartbeats 4000000 in
theorem rdig_any (A : Option Addr) (n c : Nat) (o : Bool) (l : List UInt8) (lo hi b : Int) (w : World) (h : Byt w (.slice A n c) l) (hm : l.length ≤ 1000) :
    Calls Try.prog 21 #[.agg #[.slice A n c, .bool o], .int .i64 lo, .int .i64 hi, .int .i64 b] w (DigOut o (digL o l lo hi b) (digLo o l lo hi b) (digHi o l lo hi b) (digC o l b) w) := by
  cases hb : baseB b with
  | false =>
    obtain ⟨H1, H2, H3, H4⟩ := dig_no (o := o) (l := l) hb lo hi
    rw [H1, H2, H3, H4]
    have hno := (baseB_no b).1 hb
    have HB := Lib.hid (al_two w (.cells #[.slice A n c, .bool o] 24) (.cells #[.slice A n c, .bool o] 24))
    have HY := Lib.hid (h.keep HB.out)
    have hx : PBox _ _ _ _ _ _ ∧ PBox _ _ _ _ _ _ := box_two w (.slice A n c) (.bool o) (.slice A n c) (.bool o) 24 24
    obtain ⟨b3, b4, _, _⟩ := hx.2.use
    clear H1 H2 H3 H4 h hx hb
    by_cases k1 : b < 2
    · clear hno
      go_enter Try.func21, Try.ntmps21
      go_wp2
      refine bodyPost_ret (v := .tuple #[.agg #[.slice A n c, .bool o], .int .i64 lo, .int .i64 hi, .int .i64 (-24)]) ?_ rfl ?_
      · simp [results, Try.results21, go_sem, b3, b4]
      · exact ⟨A, n, c, rfl, HY.out, HB.out⟩
    · have k1' : decide (b < 2) = false := by simp; omega
      have k2 : 36 < b := by omega
      clear k1 hno
      go_enter Try.func21, Try.ntmps21
      go_wp2
      refine bodyPost_ret (v := .tuple #[.agg #[.slice A n c, .bool o], .int .i64 lo, .int .i64 hi, .int .i64 (-24)]) ?_ rfl ?_
      · simp [results, Try.results21, go_sem, b3, b4]
      · exact ⟨A, n, c, rfl, HY.out, HB.out⟩
  | true =>
    obtain ⟨b2, b36⟩ := (baseB_iff b).1 hb
    obtain ⟨k, rfl⟩ := Int.eq_ofNat_of_zero_le (by omega : 0 ≤ b)
    have hk2 : 2 ≤ k := by omega
    have hk36 : k ≤ 36 := by omega
    obtain ⟨f1, f2, f3, f4⟩ := dig_facts lo hi k hk2 hk36
    have k1' : decide ((k : Int) < 2) = false := by simp; omega
    have k2' : decide (36 < (k : Int)) = false := by simp; omega
    have k64 : IntKind.u64.wrap (k : Int) = (k : Int) := un_nat k (by omega)
    have hk0 : ((k : Int) == 0) = false := by simp; omega
    have hH := un_cast hi
    obtain ⟨H, eH⟩ : ∃ H, un hi = H := ⟨_, rfl⟩
    rw [eH] at hH f1 f2 f3 f4
    have hr : H % k < k := Nat.mod_lt _ (by omega)
    obtain ⟨r, er⟩ : ∃ r, H % k = r := ⟨_, rfl⟩
    rw [er] at hr f1 f2 f3
    have qr : (H : Int) % (k : Int) = (r : Int) := by rw [← er]; simp
    obtain ⟨t, et⟩ : ∃ t, H / k = t := ⟨_, rfl⟩
    rw [et] at f4
    have qt : (H : Int) / (k : Int) = (t : Int) := by rw [← et]; simp
    have t64 : IntKind.u64.wrap (t : Int) = (t : Int) := un_nat t (by have := un_lt hi; rw [eH] at this; have := Nat.div_le_self H k; omega)
    have r64 : IntKind.i64.wrap (r : Int) = (r : Int) := IntWalk.i64_in _ ⟨by omega, by omega⟩
    have HU : Hid (∀ w, Calls Try.prog 36 #[.int .i64 lo, .int .i64 (r : Int), .int .i64 (k : Int)] w fun e w' => e = .returned (.tuple #[.int .i64 (lowI (pairN lo hi / k)), .int .i64 ((pairN lo hi % k : Nat) : Int), .int .i64 0]) ∧ w = w') := by
      show ∀ _, _
      intro w
      have := rudiv_any lo (r : Int) (k : Int) w (by unfold cellR; omega)
      rw [f1, f2, f3] at this
      exact this
    have HD := Lib.hid (byte_dig (pairN lo hi) k)
    have hdu : digU lo hi (k : Int) = UInt8.ofNat (digN (pairN lo hi % k)) := rfl
    obtain ⟨x, ex⟩ : ∃ x, UInt8.ofNat (digN (pairN lo hi % k)) = x := ⟨_, rfl⟩
    rw [ex] at HD hdu
    obtain ⟨m, em⟩ : ∃ m, pairN lo hi % k = m := ⟨_, rfl⟩
    rw [em] at HD HU
    obtain ⟨Lo, eLo⟩ : ∃ y, lowI (pairN lo hi / k) = y := ⟨_, rfl⟩
    rw [eLo] at HU
    have x64 : IntKind.i64.wrap (x.toNat : Int) = (x.toNat : Int) := IntWalk.i64_in _ ⟨by omega, by have := x.toNat_lt; omega⟩
    obtain ⟨o1, ho1⟩ : ∃ o1 : Obj, .cells #[.slice A n c, .bool o] 24 = o1 := ⟨_, rfl⟩
    obtain ⟨o2, ho2⟩ : ∃ o2 : Obj, .cells #[.slice none 0 0, .bool false] 24 = o2 := ⟨_, rfl⟩
    obtain ⟨W, hW⟩ : ∃ W, (w.alloc o1).alloc o2 = W := ⟨_, rfl⟩
    have kk := al_two w o1 o2
    have hx : PBox ((w.alloc o1).alloc o2) w.heap.size A n c o ∧ PBox ((w.alloc o1).alloc o2) (w.heap.size + 1) none 0 0 false := by rw [← ho1, ← ho2]; exact box_two _ _ _ _ _ _ _
    rw [hW] at kk hx
    have HB := Lib.hid kk
    have HX := Lib.hid hx.2
    have HP := Lib.hid hx.1
    have HW := Lib.hid hW
    have HY := Lib.hid (h.keep kk)
    have F4 := Lib.hid f4
    cases hk : pOpen o l with
    | false =>
      obtain ⟨H1, H2, H3, H4⟩ := dig_full (o := o) (l := l) hb hk lo hi
      rw [H1, H2, H3, H4]
      obtain ⟨HHL, HHC⟩ : holdL o l (x.toNat : Int) = l ∧ holdC o l = -17 := by unfold holdL holdC; rw [if_neg (by simp [hk]), if_neg (by simp [hk])]; exact ⟨rfl, rfl⟩
      clear h H1 H2 H3 H4 hW hx kk f1 f2 f3 f4 ex et er eH hb em eLo
      subst ho1 ho2
      have SB : Hid (∀ a, Below W.heap.size W a → (a.cell? ⟨w.heap.size, 0, none⟩ = some (.slice A n c) ∧ a.cell? ⟨w.heap.size, 1, none⟩ = some (.bool o) ∧ Below W.heap.size W a)) := Lib.hid fun a h => ⟨(Box.use (Box.keep HP.out h)).1, (Box.use (Box.keep HP.out h)).2.1, h⟩
      have HH : Hid (∀ a, Below W.heap.size W a → Calls Try.prog 19 #[.agg #[.slice A n c, .bool o], .int .i64 (x.toNat : Int)] a fun e w' => ∃ A' n' c', e = .returned (.tuple #[.agg #[.slice A' n' c', .bool o], .int .i64 (-17)]) ∧ Byt w' (.slice A' n' c') l ∧ Below a.heap.size a w') := by
        show ∀ _, _
        intro a k
        have := rhold_any A n c o l (x.toNat : Int) a (HY.out.keep k) hm
        rw [HHL, HHC] at this
        exact this
      clear HHL HHC
      go_enter Try.func21, Try.ntmps21
      go_wp2_with fail
      refine (HU.out _).mono ?_
      rintro e w1 ⟨rfl, rfl⟩
      go_wp2_with fail
      rw [HW.out]
      refine wp_region_noPanic ?_
      go_region_held3 (fun a => a.cell? ⟨w.heap.size, 0, none⟩ = some (.slice A n c) ∧ a.cell? ⟨w.heap.size, 1, none⟩ = some (.bool o) ∧ Below W.heap.size W a) (first | assumption | exact SB.out _ (since_d _) | exact SB.out _ (since_ad _ _) | exact SB.out _ (since_aa s4.2.2 _) | exact SB.out _ (below_pset s4.2.2 (Nat.le_refl _) _ _) | exact SB.out _ (below_pset (since_aa s4.2.2 _) s4.2.2.size _ _))
        (first
          | (go_at_call 37; ((with_reducible refine (rdigit_any _ _).mono ?_); rw [HD.out]; rintro ed wd ⟨rfl, rfl⟩))
          | (go_at_call 19; ((with_reducible refine (HH.out _ (by assumption : _ ∧ _ ∧ Below W.heap.size W _).2.2).mono ?_); rintro e4 w4 ⟨A4, n4, c4, rfl, hy4, b4⟩; have s4 := SB.out _ (below_then (by assumption : _ ∧ _ ∧ Below W.heap.size W _).2.2 b4); have Q3 := Lib.hid (Box.keep_h (pbox_new W none 0 0 false) b4 rfl); obtain ⟨q2, q3, q4, q5⟩ := Q3.out.use))
          | (go_at_call 19; ((with_reducible refine (HH.out _ (by assumption : _ ∧ _ ∧ Below W.heap.size W _).2.2).mono ?_); rintro e4 w4 ⟨A4, n4, c4, rfl, hy4, b4⟩; have s4 := SB.out _ (below_then (by assumption : _ ∧ _ ∧ Below W.heap.size W _).2.2 b4))))
      all_goals (refine NoPanic.normal ?_)
      all_goals (first
        | (obtain ⟨wf, hwf, zf, bf⟩ := ppack (W := W) (o' := o) Q3.out hy4 s4.2.2 (Nat.le_refl _); rw [hwf]; clear hwf)
        | (obtain ⟨wf, hwf, zf, bf⟩ := papack (W := W) (o := o) hy4 s4.2.2; rw [hwf]; clear hwf))
      all_goals (have XP := Lib.hid (Box.keep HP.out bf); have XZ := Lib.hid (Box.keep HX.out bf); obtain ⟨p0, p1, _, _⟩ := XP.out.use; obtain ⟨z0, z1, z2, z3⟩ := XZ.out.use; have lz := XZ.out.lt; have HBB := Lib.hid (below_then HB.out bf); have HYY := Lib.hid (HY.out.keep bf); obtain ⟨x0, x1⟩ := zf.out.use; clear bf)
      all_goals go_wp2_with fail
      all_goals (obtain ⟨r0, r1, _, _⟩ := (PBox.put XZ.out (.slice A n c) (.bool o)).use)
      all_goals refine bodyPost_ret (v := .tuple #[.agg #[.slice A n c, .bool o], .int .i64 lo, .int .i64 hi, .int .i64 (-17)]) ?_ rfl ?_
      all_goals first
        | (simp [results, Try.results21, go_sem, r0, r1]; done)
        | exact ⟨A, n, c, rfl, byt_pset HYY.out XZ.out _ _, below_pset HBB.out (by omega) _ _⟩
    | true =>
      obtain ⟨H1, H2, H3, H4⟩ := dig_ok (o := o) (l := l) hb hk lo hi
      rw [Int.toNat_natCast] at H2 H3
      obtain ⟨T, eT⟩ : ∃ T, highI (pairN lo hi / k) = T := ⟨_, rfl⟩
      have HT : IntKind.i64.wrap (t : Int) = T := by rw [← eT]; rw [IntWalk.i64_left]; exact F4.out
      rw [hdu] at H1
      rw [eLo] at H2
      rw [eT] at H3
      rw [H1, H2, H3, H4]
      obtain ⟨HHL, HHC⟩ : holdL o l (x.toNat : Int) = l ++ [x] ∧ holdC o l = 0 := by unfold holdL holdC; rw [if_pos hk, if_pos hk, byteI_u8]; exact ⟨rfl, rfl⟩
      clear h F4 H1 H2 H3 H4 hW hx kk f1 f2 f3 f4 ex et er eH hb em eLo
      subst ho1 ho2
      have SB : Hid (∀ a, Below W.heap.size W a → (a.cell? ⟨w.heap.size, 0, none⟩ = some (.slice A n c) ∧ a.cell? ⟨w.heap.size, 1, none⟩ = some (.bool o) ∧ Below W.heap.size W a)) := Lib.hid fun a h => ⟨(Box.use (Box.keep HP.out h)).1, (Box.use (Box.keep HP.out h)).2.1, h⟩
      have HH : Hid (∀ a, Below W.heap.size W a → Calls Try.prog 19 #[.agg #[.slice A n c, .bool o], .int .i64 (x.toNat : Int)] a fun e w' => ∃ A' n' c', e = .returned (.tuple #[.agg #[.slice A' n' c', .bool o], .int .i64 0]) ∧ Byt w' (.slice A' n' c') (l ++ [x]) ∧ Below a.heap.size a w') := by
        show ∀ _, _
        intro a k
        have := rhold_any A n c o l (x.toNat : Int) a (HY.out.keep k) hm
        rw [HHL, HHC] at this
        exact this
      clear HHL HHC
      go_enter Try.func21, Try.ntmps21
      go_wp2_with fail
      refine (HU.out _).mono ?_
      rintro e w1 ⟨rfl, rfl⟩
      go_wp2_with fail
      rw [HW.out]
      refine wp_region_noPanic ?_
      go_region_held3 (fun a => a.cell? ⟨w.heap.size, 0, none⟩ = some (.slice A n c) ∧ a.cell? ⟨w.heap.size, 1, none⟩ = some (.bool o) ∧ Below W.heap.size W a) (first | assumption | exact SB.out _ (since_d _) | exact SB.out _ (since_ad _ _) | exact SB.out _ (since_aa s4.2.2 _) | exact SB.out _ (below_pset s4.2.2 (Nat.le_refl _) _ _) | exact SB.out _ (below_pset (since_aa s4.2.2 _) s4.2.2.size _ _))
        (first
          | (go_at_call 37; ((with_reducible refine (rdigit_any _ _).mono ?_); rw [HD.out]; rintro ed wd ⟨rfl, rfl⟩))
          | (go_at_call 19; ((with_reducible refine (HH.out _ (by assumption : _ ∧ _ ∧ Below W.heap.size W _).2.2).mono ?_); rintro e4 w4 ⟨A4, n4, c4, rfl, hy4, b4⟩; have s4 := SB.out _ (below_then (by assumption : _ ∧ _ ∧ Below W.heap.size W _).2.2 b4); have Q3 := Lib.hid (Box.keep_h (pbox_new W none 0 0 false) b4 rfl); obtain ⟨q2, q3, q4, q5⟩ := Q3.out.use))
          | (go_at_call 19; ((with_reducible refine (HH.out _ (by assumption : _ ∧ _ ∧ Below W.heap.size W _).2.2).mono ?_); rintro e4 w4 ⟨A4, n4, c4, rfl, hy4, b4⟩; have s4 := SB.out _ (below_then (by assumption : _ ∧ _ ∧ Below W.heap.size W _).2.2 b4))))
      all_goals (refine NoPanic.normal ?_)
      all_goals (first
        | (obtain ⟨wf, hwf, zf, bf⟩ := ppack (W := W) (o' := o) Q3.out hy4 s4.2.2 (Nat.le_refl _); rw [hwf]; clear hwf)
        | (obtain ⟨wf, hwf, zf, bf⟩ := papack (W := W) (o := o) hy4 s4.2.2; rw [hwf]; clear hwf))
      all_goals (have XP := Lib.hid (Box.keep HP.out bf); have XZ := Lib.hid (Box.keep HX.out bf); obtain ⟨p0, p1, _, _⟩ := XP.out.use; obtain ⟨z0, z1, z2, z3⟩ := XZ.out.use; have lz := XZ.out.lt; have HBB := Lib.hid (below_then HB.out bf); have HYY := Lib.hid (zf.out.byt); obtain ⟨x0, x1⟩ := zf.out.use; clear bf)
      all_goals go_wp2_with fail
      all_goals (obtain ⟨r0, r1, _, _⟩ := (PBox.put XZ.out (.slice A4 n4 c4) (.bool o)).use)
      all_goals refine bodyPost_ret (v := .tuple #[.agg #[.slice A4 n4 c4, .bool o], .int .i64 Lo, .int .i64 T, .int .i64 0]) ?_ rfl ?_
      all_goals first
        | (simp [results, Try.results21, go_sem, r0, r1]; done)
        | exact ⟨A4, n4, c4, rfl, byt_pset HYY.out XZ.out _ _, below_pset HBB.out (by omega) _ _⟩
end Go.Proofs.Ytphbeghflbkpgaa

/- The contract of the document's All. -/
namespace Go.Proofs.Ytphbeghflbkpgaa
open Go.RowKit
set_option linter.unusedVariables false
set_option linter.unusedSimpArgs false

set_option maxRecDepth 100000 in
set_option maxHeartbeats 4000000 in
theorem rall_any (A : Option Addr) (n c : Nat) (o : Bool) (l : List UInt8) (lo hi b : Int) (w : World) (h : Byt w (.slice A n c) l) (hm : l.length ≤ 1000) (hlo : cellR lo) (hhi : cellR hi) :
    Calls Try.prog 23 #[.agg #[.slice A n c, .bool o], .int .i64 lo, .int .i64 hi, .int .i64 b] w (PicOut o (allL o l lo hi b) (allC o l lo hi b) w) := by
  have HI := Lib.hid (inv_start (lo := lo) (hi := hi) (b := b) (o := o) hm)
  have HC1 : Hid (cellR (digLo o l lo hi b) ∧ cellR (digHi o l lo hi b)) := ⟨digLo_cell hlo, digHi_cell hhi⟩
  have HD : Hid (∀ (a : World) (A : Option Addr) (n c : Nat) (l : List UInt8) (lo hi : Int), Byt a (.slice A n c) l → l.length ≤ 1000 → Calls Try.prog 21 #[.agg #[.slice A n c, .bool o], .int .i64 lo, .int .i64 hi, .int .i64 b] a (DigOut o (digL o l lo hi b) (digLo o l lo hi b) (digHi o l lo hi b) (digC o l b) a)) := fun a A n c l lo hi h hm => rdig_any A n c o l lo hi b a h hm
  obtain ⟨L1, eL1⟩ : ∃ x, digL o l lo hi b = x := ⟨_, rfl⟩
  obtain ⟨lo1, elo1⟩ : ∃ x, digLo o l lo hi b = x := ⟨_, rfl⟩
  obtain ⟨hi1, ehi1⟩ : ∃ x, digHi o l lo hi b = x := ⟨_, rfl⟩
  obtain ⟨c1, ec1⟩ : ∃ x, digC o l b = x := ⟨_, rfl⟩
  rw [eL1, elo1, ehi1, ec1] at HI
  rw [elo1, ehi1] at HC1
  obtain ⟨o1, ho1⟩ : ∃ o1 : Obj, .cells #[.slice A n c, .bool o] 24 = o1 := ⟨_, rfl⟩
  obtain ⟨o2, ho2⟩ : ∃ o2 : Obj, .cells #[.slice none 0 0, .bool false] 24 = o2 := ⟨_, rfl⟩
  obtain ⟨W, hW⟩ : ∃ W, (w.alloc o1).alloc o2 = W := ⟨_, rfl⟩
  have kk := al_two w o1 o2
  have hx : PBox ((w.alloc o1).alloc o2) w.heap.size A n c o ∧ PBox ((w.alloc o1).alloc o2) (w.heap.size + 1) none 0 0 false := by rw [← ho1, ← ho2]; exact box_two _ _ _ _ _ _ _
  rw [hW] at kk hx
  have HB := Lib.hid kk
  have HX := Lib.hid hx.2
  have HP := Lib.hid hx.1
  have HW := Lib.hid hW
  have HY := Lib.hid (h.keep kk)
  have HH := Lib.hid (rdig_any A n c o l lo hi b W HY.out hm)
  rw [eL1, elo1, ehi1, ec1] at HH
  obtain ⟨RL, eRL⟩ : ∃ x, allL o l lo hi b = x := ⟨_, rfl⟩
  obtain ⟨RC, eRC⟩ : ∃ x, allC o l lo hi b = x := ⟨_, rfl⟩
  have HRL := Lib.hid eRL
  have HRC := Lib.hid eRC
  rw [eRL, eRC]
  clear h eL1 elo1 ehi1 ec1 kk hx hW hlo hhi eRL eRC
  subst ho1 ho2
  go_enter Try.func23, Try.ntmps23
  go_wp2_with fail
  rw [HW.out]
  refine HH.out.mono ?_
  rintro e w1 ⟨A1, n1, k1, rfl, hy, bb⟩
  have HBX : Hid (W.heap.size ≤ w1.heap.size) := Lib.hid bb.size
  have HA1 := Lib.hid (pat_new (o := o) hy)
  have HB1 := Lib.hid (alloc_then (o := .cells #[.slice A1 n1 k1, .bool o] 24) bb)
  clear hy bb HH
  go_wp2_with fail
  obtain ⟨bx, ebx⟩ : ∃ x, w1.heap.size = x := ⟨_, rfl⟩
  rw [ebx] at HA1 HBX
  simp only [ebx]
  clear ebx
  go_loopw [11, 12, 13] (fun s11 s12 s13 wr => ∃ (low high bad : Int) (A2 : Option Addr) (n2 c2 : Nat) (l2 : List UInt8), s11 = .int .i64 low ∧ s12 = .int .i64 high ∧ s13 = .int .i64 bad ∧ Hid (PAt bx A2 n2 c2 o l2 wr) ∧ Hid (Below W.heap.size W wr) ∧ Hid (AllInv o l lo hi b l2 (pairN low high) bad) ∧ Hid (cellR low ∧ cellR high)) (fun s11 s12 s13 _ => measA s11 s12 s13)
  case atStart => exact ⟨lo1, hi1, c1, A1, n1, k1, L1, rfl, rfl, rfl, HA1, HB1, HI, HC1⟩
  case round =>
    clear HA1 HB1 HI HC1
    obtain ⟨low, high, bad, A2, n2, c2, l2, rfl, rfl, rfl, HA2, HB2, HI2, HC2⟩ := hrel
    obtain ⟨x0, x1⟩ := HA2.out.use
    have XP := Lib.hid (Box.keep HP.out HB2.out)
    have XZ := Lib.hid (Box.keep HX.out HB2.out)
    have HBB := Lib.hid (below_then HB.out HB2.out)
    have HYY := Lib.hid (HY.out.keep HB2.out)
    by_cases hbad : bad = 0
    · subst hbad
      by_cases hu : pairN low high = 0
      · obtain ⟨rfl, rfl⟩ := (pair_zero HC2.out.1 HC2.out.2).1 hu
        obtain ⟨e1, e2⟩ := AllInv.done (by have := HI2.out; rw [hu] at this; exact this)
        have HRC0 : Hid (RC = 0) := HRC.out.symm.trans e2
        have HL2 : Hid (l2 = RL) := e1.trans HRL.out
        obtain ⟨z0, z1, z2, z3⟩ := XZ.out.use
        have lz := XZ.out.lt
        clear hu e1 e2 HI2
        go_wp2_with fail
        obtain ⟨r0, r1, _, _⟩ := (PBox.put XZ.out (.slice A2 n2 c2) (.bool o)).use
        refine bodyPost_ret (v := .tuple #[.agg #[.slice A2 n2 c2, .bool o], .int .i64 0]) ?_ rfl ?_
        · simp [results, Try.results23, go_sem, r0, r1]
        · rw [HRC0.out]
          exact ⟨A2, n2, c2, rfl, byt_pset (HL2.out ▸ HA2.out.byt) XZ.out _ _, below_pset HBB.out (by omega) _ _⟩
      · have h2 : low ≠ 0 ∨ (low = 0 ∧ high ≠ 0) := by
          by_cases h : low = 0
          · exact .inr ⟨h, fun h' => hu ((pair_zero HC2.out.1 HC2.out.2).2 ⟨h, h'⟩)⟩
          · exact .inl h
        have HS := Lib.hid (AllInv.smaller HI2.out hu)
        have HN := Lib.hid (AllInv.next HI2.out hu)
        have HC3 : Hid (cellR (digLo o l2 low high b) ∧ cellR (digHi o l2 low high b)) := ⟨digLo_cell HC2.out.1, digHi_cell HC2.out.2⟩
        have H3 := Lib.hid (fun (a : World) (h : Byt a (.slice A2 n2 c2) l2) => HD.out a A2 n2 c2 l2 low high h (AllInv.len HI2.out))
        obtain ⟨L3, eL3⟩ : ∃ x, digL o l2 low high b = x := ⟨_, rfl⟩
        obtain ⟨lo3, elo3⟩ : ∃ x, digLo o l2 low high b = x := ⟨_, rfl⟩
        obtain ⟨hi3, ehi3⟩ : ∃ x, digHi o l2 low high b = x := ⟨_, rfl⟩
        obtain ⟨c3, ec3⟩ : ∃ x, digC o l2 b = x := ⟨_, rfl⟩
        rw [eL3, elo3, ehi3, ec3] at HN H3
        rw [elo3, ehi3] at HC3 HS
        rw [ec3] at HS
        have HM : Hid (measA (.int .i64 lo3) (.int .i64 hi3) (.int .i64 c3) < measA (.int .i64 low) (.int .i64 high) (.int .i64 0)) := by
          show (if c3 = 0 then pairN lo3 hi3 + 1 else 0) < (if (0 : Int) = 0 then pairN low high + 1 else 0)
          rw [if_pos (rfl : (0 : Int) = 0)]
          split
          · have := HS.out (by assumption)
            omega
          · omega
        clear hu eL3 elo3 ehi3 ec3 HI2 HC2 HS
        rcases h2 with hl0 | ⟨rfl, hh0⟩
        · have hl1 : ((low : Int) != 0) = true := by simpa using hl0
          have hl2 : ((low : Int) == 0) = false := by simpa using hl0
          go_wp2_with fail
          refine (H3.out _ HA2.out.byt).mono ?_
          rintro e w3 ⟨A3, n3, k3, rfl, hy3, b3⟩
          have HA3 := Lib.hid ((pat_new (o := o) hy3).2)
          have XB := Lib.hid (Box.keep (Box.keep HA2.out.1 b3) (al_one _ (.cells #[.slice A3 n3 k3, .bool o] 24)))
          have HB3 := Lib.hid (alloc_then (o := .cells #[.slice A3 n3 k3, .bool o] 24) (below_then HB2.out b3))
          obtain ⟨q2, q3, q4, q5⟩ := XB.out.use
          have lq := XB.out.lt
          clear hy3 b3 x0 x1
          go_wp2_with fail
          go_roundw
          case rel => exact ⟨lo3, hi3, c3, A3, n3, k3, L3, rfl, rfl, rfl, Lib.hid (pat_set XB.out HA3.out), Lib.hid (below_pset HB3.out HBX.out _ _), HN, HC3⟩
          case measure => exact HM.out

        · have hl1 : ((high : Int) != 0) = true := by simpa using hh0
          have hl2 : ((high : Int) == 0) = false := by simpa using hh0
          go_wp2_with fail
          refine (H3.out _ HA2.out.byt).mono ?_
          rintro e w3 ⟨A3, n3, k3, rfl, hy3, b3⟩
          have HA3 := Lib.hid ((pat_new (o := o) hy3).2)
          have XB := Lib.hid (Box.keep (Box.keep HA2.out.1 b3) (al_one _ (.cells #[.slice A3 n3 k3, .bool o] 24)))
          have HB3 := Lib.hid (alloc_then (o := .cells #[.slice A3 n3 k3, .bool o] 24) (below_then HB2.out b3))
          obtain ⟨q2, q3, q4, q5⟩ := XB.out.use
          have lq := XB.out.lt
          clear hy3 b3 x0 x1
          go_wp2_with fail
          go_roundw
          case rel => exact ⟨lo3, hi3, c3, A3, n3, k3, L3, rfl, rfl, rfl, Lib.hid (pat_set XB.out HA3.out), Lib.hid (below_pset HB3.out HBX.out _ _), HN, HC3⟩
          case measure => exact HM.out

    · obtain ⟨e1, e2⟩ := AllInv.fell HI2.out hbad
      have HRC0 : Hid (bad = RC) := e2.trans HRC.out
      have HL2 : Hid (l = RL) := e1.symm.trans HRL.out
      have hb1 : ((bad : Int) != 0) = true := by simpa using hbad
      have hb2 : ((bad : Int) == 0) = false := by simpa using hbad
      obtain ⟨z0, z1, z2, z3⟩ := XZ.out.use
      obtain ⟨p0, p1, _, _⟩ := XP.out.use
      have lz := XZ.out.lt
      clear e1 e2 HI2 x0 x1
      go_wp2_with fail
      obtain ⟨r0, r1, _, _⟩ := (PBox.put XZ.out (.slice A n c) (.bool o)).use
      refine bodyPost_ret (v := .tuple #[.agg #[.slice A n c, .bool o], .int .i64 bad]) ?_ rfl ?_
      · simp [results, Try.results23, go_sem, r0, r1]
      · rw [HRC0.out]
        exact ⟨A, n, c, rfl, byt_pset (HL2.out ▸ HYY.out) XZ.out _ _, below_pset HBB.out (by omega) _ _⟩
end Go.Proofs.Ytphbeghflbkpgaa

/- The contract of the document's End. -/
namespace Go.Proofs.Ytphbeghflbkpgaa
open Go.RowKit
set_option linter.unusedVariables false
set_option linter.unusedSimpArgs false

theorem byt_cell {w : World} {A : Option Addr} {n c : Nat} {l : List UInt8} (h : Byt w (.slice A n c) l) {k : Nat} (hk : k < l.length) : ∃ g o, A = some ⟨g, o, none⟩ ∧ w.cell? ⟨g, o + k, none⟩ = some (.int .u8 ((l[k]).toNat : Int)) := by
  rcases h.lies with h | ⟨g, o, e, _, hc⟩
  · have := congrArg List.length h
    rw [u8s_len] at this
    have h0 : l.length = 0 := this
    omega
  · exact ⟨g, o, e, hc k _ (u8s_at hk)⟩
theorem drop_rev {l : List UInt8} {k : Nat} (hk : k < l.length) : (l.drop k).reverse = (l.drop (k + 1)).reverse ++ [l[k]] := by
  rw [List.drop_eq_getElem_cons hk]
  simp
theorem Byt.is_slice {w : World} {v : Value} {l : List UInt8} (h : Byt w v l) : ∃ A c, v = .slice A l.length c := h.form

set_option maxRecDepth 100000 in
set_option maxHeartbeats 4000000 in
theorem rend_any (A : Option Addr) (n c : Nat) (o : Bool) (l : List UInt8) (w : World) (h : Byt w (.slice A n c) l) (hm : l.length ≤ 1000) :
    Calls Try.prog 17 #[.agg #[.slice A n c, .bool o]] w fun e w' => e = .returned (.tuple #[.string (strB (endL o l)), .int .i64 (endC o)]) ∧ Below w.heap.size w w' := by
  cases o with
  | false =>
    have H1 : Hid (strB (endL false l) = ⟨#[]⟩) := by show _ = _; unfold endL; rw [if_neg (by simp)]; rfl
    have H2 : Hid (endC false = -17) := rfl
    rw [H1.out, H2.out]
    clear h hm
    go_enter Try.func17, Try.ntmps17
    go_wp2
    go_ret2
    exact ⟨rfl, al_one _ _⟩
  | true =>
    have H1 : Hid (endL true l = l.reverse) := by show _ = _; unfold endL; rw [if_pos rfl]
    have H2 : Hid (endC true = 0) := rfl
    rw [H1.out, H2.out]
    have hl := h.len
    subst hl
    obtain ⟨W, hW⟩ : ∃ W, w.alloc (.cells #[.slice A l.length c, .bool true] 24) = W := ⟨_, rfl⟩
    have hB := al_one w (.cells #[.slice A l.length c, .bool true] 24)
    have hP := pbox_new w A l.length c true
    rw [hW] at hB hP
    have HB := Lib.hid hB
    have HP := Lib.hid hP
    have HW := Lib.hid hW
    have HY := Lib.hid (h.keep hB)
    have HM := Lib.hid hm
    clear h hB hP hW hm
    go_enter Try.func17, Try.ntmps17
    have hw1 : wrap64 ((l.length : Int) - 1) = (l.length : Int) - 1 := w64_id (by have := HM.out; omega) (by have := HM.out; omega)
    go_wp2_with fail
    rw [HW.out, hw1]
    clear hw1
    go_loopw [4, 5] (fun s4 s5 wr => ∃ (k : Nat) (i : Int) (v : Value), v = s4 ∧ s5 = .int .i64 i ∧ i = (k : Int) - 1 ∧ k ≤ l.length ∧ Hid (BOwns wr W.heap.size v (l.drop k).reverse.length (l.drop k).reverse) ∧ Hid (Below W.heap.size W wr)) (fun _ s5 _ => (intOf s5 + 1).toNat)
    case atStart =>
      refine ⟨l.length, _, _, rfl, rfl, rfl, Nat.le_refl _, Lib.hid ?_, Lib.hid (Below.refl _ _)⟩
      rw [List.drop_length]
      exact bowns_none _ _
    case round =>
      obtain ⟨k, i, v, hv0, rfl, hi, hk, HO, HB2⟩ := hrel
      subst hv0
      have XP := Lib.hid (Box.keep HP.out HB2.out)
      obtain ⟨p0, p1, _, _⟩ := XP.out.use
      have HBB := Lib.hid (below_then HB.out HB2.out)
      cases k with
      | zero =>
        have hi1 : decide (0 ≤ i) = false := by simp; omega
        clear hi
        have hy := HO.out.byt
        rw [List.drop_zero] at hy
        obtain ⟨A', n', c', rfl⟩ := byt_slice hy
        have cv := hy.conv
        clear hy
        go_wp2_with fail
        go_ret2
        exact ⟨rfl, HBB.out⟩
      | succ k =>
        obtain rfl : i = (k : Int) := by omega
        obtain ⟨g, o, hA, hc⟩ := byt_cell (HY.out.keep HB2.out) (by omega : k < l.length)
        have hR := drop_rev (by omega : k < l.length)
        obtain ⟨x, hx⟩ : ∃ x, l[k] = x := ⟨_, rfl⟩
        rw [hx] at hc hR
        have HR := Lib.hid hR
        have hw1 : wrap64 ((k : Int) - 1) = (k : Int) - 1 := w64_id (by omega) (by have := HM.out; omega)
        have hkl : k < l.length := by omega
        have hkl' : (k : Int) < (l.length : Int) := by omega
        have HLN : Hid ((l.drop (k + 1)).reverse.length ≤ 1000) := by show _ ≤ _; have := HM.out; simp; omega
        obtain ⟨z, hz⟩ : ∃ z, (l.drop (k + 1)).reverse = z := ⟨_, rfl⟩
        rw [hz] at HO HLN
        rw [hz] at HR
        subst hA
        clear hx hR hi hk hz
        go_wp2_with (at_builtin; (refine wpList_bapp rfl _ _ rfl W.heap.size v z.length z rfl (HO.out.alloc _) (some ⟨wr.heap.size, 0, none⟩) 1 1 [x] rfl (byt_one wr x) (by have := HLN.out; omega) (by have := HB2.out.size; simp; omega) W (alloc_then HB2.out) (Nat.le_refl _) ?_; intro v2 w4 ho hb2 hgr; have O4 := Lib.hid (bown_app ho); have B4 := Lib.hid hb2; clear ho hb2 hgr))
        go_roundw
        case rel => exact ⟨k, _, v2, rfl, rfl, hw1, by omega, Lib.hid (by rw [HR.out]; exact O4.out), B4⟩
        case measure => rw [hw1]; simp [intOf]
end Go.Proofs.Ytphbeghflbkpgaa

/- Contracts of the program's Begin, Right, Same, Hold, Sign. -/
namespace Go.Proofs.Ytphbeghflbkpgaa
open Go.RowKit
set_option linter.unusedVariables false
set_option linter.unusedSimpArgs false

set_option maxRecDepth 100000 in
theorem begin_any (w : World) : Calls Try.prog 14 #[] w fun e w' => ∃ A' n' c', e = .returned (.agg #[.slice A' n' c', .bool true]) ∧ Byt w' (.slice A' n' c') [] ∧ Below w.heap.size w w' := by
  obtain ⟨r0, r1, _, _⟩ := (pbox_new w none 0 0 true).use
  go_enter Try.func14, Try.ntmps14
  go_wp2
  refine bodyPost_ret (v := .agg #[.slice none 0 0, .bool true]) ?_ rfl ?_
  · simp [results, Try.results14, go_sem, r0, r1]
  · exact ⟨none, 0, 0, rfl, byt_nil _, al_one _ _⟩

set_option maxRecDepth 100000 in
theorem right_any (A : Option Addr) (n c : Nat) (o : Bool) (l : List UInt8) (w : World) (h : Byt w (.slice A n c) l) :
    Calls Try.prog 11 #[.agg #[.slice A n c, .bool o]] w fun e w' => e = .returned (.bool (pRight o l)) ∧ Below w.heap.size w w' := by
  have hl := h.len
  cases o with
  | true =>
    by_cases h1 : n ≤ 130
    · have h1' : (n : Int) ≤ 130 := by omega
      have H : Hid (pRight true l = true) := (pRight_iff _ _).2 ⟨by omega, .inl rfl⟩
      rw [H.out]
      clear h hl
      go_enter Try.func11, Try.ntmps11
      go_wp2
      go_ret
      exact ⟨rfl, al_one _ _⟩
    · have H : Hid (pRight true l = false) := (pRight_no _ _).2 (by omega)
      have h1' : decide ((n : Int) ≤ 130) = false := by simp; omega
      rw [H.out]
      clear h hl h1
      go_enter Try.func11, Try.ntmps11
      go_wp2
      go_ret
      exact ⟨rfl, al_one _ _⟩
  | false =>
    by_cases h0 : n = 0
    · have H : Hid (pRight false l = true) := (pRight_iff _ _).2 ⟨by omega, .inr (len_zero (by omega))⟩
      rw [H.out]
      clear h hl
      subst h0
      go_enter Try.func11, Try.ntmps11
      go_wp2
      go_ret
      exact ⟨rfl, al_one _ _⟩
    · have H : Hid (pRight false l = false) := (pRight_no _ _).2 (by rintro ⟨_, h | h⟩; cases h; rw [h] at hl; exact h0 hl.symm)
      rw [H.out]
      have h0' : ((n : Int) == 0) = false := by simp; omega
      clear h hl
      go_enter Try.func11, Try.ntmps11
      go_wp2
      go_ret
      exact ⟨rfl, al_one _ _⟩

set_option maxRecDepth 100000 in
theorem same_any (A A' : Option Addr) (n c n' c' : Nat) (o o' : Bool) (l l' : List UInt8) (w : World) (h : Byt w (.slice A n c) l) (h' : Byt w (.slice A' n' c') l') :
    Calls Try.prog 12 #[.agg #[.slice A n c, .bool o], .agg #[.slice A' n' c', .bool o']] w fun e w' => e = .returned (.bool (pSame o l o' l')) ∧ Below w.heap.size w w' := by
  by_cases ho : o = o'
  · subst ho
    have H : Hid (pSame o l o l' = decide (l = l')) := by show _ = _; unfold pSame; simp
    rw [H.out]
    obtain ⟨d, hd⟩ : ∃ d, decide (l = l') = d := ⟨_, rfl⟩
    have k1 := al_two w (.cells #[.slice A n c, .bool o] 24) (.cells #[.slice A' n' c', .bool o] 24)
    have HE := Lib.hid (equal_any A A' n c n' c' l l' _ (h.keep k1) (h'.keep k1))
    rw [hd] at HE
    rw [hd]
    have K := Lib.hid k1
    have hb : PBox _ _ _ _ _ _ ∧ PBox _ _ _ _ _ _ := box_two w (.slice A n c) (.bool o) (.slice A' n' c') (.bool o) 24 24
    obtain ⟨b1, b2, _, _⟩ := hb.1.use
    obtain ⟨b3, b4, _, _⟩ := hb.2.use
    clear h h' k1 hb hd
    go_enter Try.func12, Try.ntmps12
    go_wp2_with fail
    refine HE.out.mono ?_
    rintro e w1 ⟨rfl, rfl⟩
    go_wp2_with fail
    go_ret
    exact ⟨rfl, K.out⟩
  · have H : Hid (pSame o l o' l' = false) := by show _ = _; unfold pSame; simp [ho]
    rw [H.out]
    have ho' : (o == o') = false := by simpa using ho
    clear h h' ho
    go_enter Try.func12, Try.ntmps12
    go_wp2
    go_ret
    exact ⟨rfl, al_two w (.cells #[.slice A n c, .bool o] 24) (.cells #[.slice A' n' c', .bool o'] 24)⟩
end Go.Proofs.Ytphbeghflbkpgaa

/- Contracts of the program's Hold and Sign: append to a row of bytes without room behind its end. -/
namespace Go.Proofs.Ytphbeghflbkpgaa
open Go.RowKit
set_option linter.unusedVariables false
set_option linter.unusedSimpArgs false

/-- append of bytes to a row that came in and has no room: it always makes a row of its own. -/
theorem wpList_bgrow {ops : Array Oper} {rest : List Oper} {o : Oper} {a : Act} {Q : Exit → Act → World → Prop} {w : World} (hgd : o.guard = none) (s x : Operand)
    (ho : o.op = .call { callee := .builtin .append, args := #[s, x], argTypes := #[22, 22] })
    (A : Option Addr) (n c : Nat) (l : List UInt8) (hs : a.eval s = .slice A n n) (hy : Byt w (.slice A n c) l)
    (g : Nat) (z : List UInt8) (hx : a.eval x = .slice (some ⟨g, 0, none⟩) 1 1) (hz : Byt w (.slice (some ⟨g, 0, none⟩) 1 1) z) (hn : n ≤ 1000)
    (h : ∀ v' w', BOwns w' w.heap.size v' (n + 1) (l ++ z) → Below w.heap.size w w' → wpList Try.prog ops Q rest (a.put o.dst v') w') : wpList Try.prog ops Q (o :: rest) a w := by
  obtain ⟨i0, hi, hz0, hz1, hz2⟩ := info_parts info_u8
  have hl := hy.len
  have hzl := hz.len
  have hli := hy.lies
  have hlz := hz.lies
  refine wpList_append_grows w hgd s x _ ho 5 i0 (.int .u8 0) 1 1 Try.underlying22 hi hz0 hz1 hz2 rfl (by decide) A n n (u8s l) hs ?_ (by rw [u8s_len, hl, Nat.mul_one]) ?_ ⟨g, 0, none⟩ 1 1 (u8s z) hx (by rw [u8s_len, hzl]) ?_ (u8s_one z) (by omega) (by unfold maxLen; omega) (by omega) fun v' w' h1 h2 => h v' w' ?_ ?_
  · intro e
    subst e
    rcases hli with hli | ⟨_, _, e, _⟩
    · have := congrArg List.length hli
      rw [u8s_len] at this
      have h0 : l.length = 0 := this
      omega
    · cases e
  · intro b hb j u hu
    rcases hli with hli | ⟨g2, o2, e, _, hc⟩
    · rw [hli] at hu; simp at hu
    · rw [hb] at e
      injection e with e
      rw [e, add_at]
      exact hc j u hu
  · intro j u hu
    rcases hlz with hli | ⟨g2, o2, e, _, hc⟩
    · rw [hli] at hu; simp at hu
    · injection e with e
      rw [e, add_at]
      exact hc j u hu
  · have e := u8s_app l z
    unfold BOwns
    rw [e]
    exact h1
  · exact (Below.refl _ w).grown h2 (Nat.le_refl _) (fun k hk => by cases hk)

/-- 's[:n:n]' of a row of n bytes. -/
def fullAt (A : Option Addr) (n : Nat) : Option Addr := if n = 0 then A else A.map (·.add (0 * 1))
theorem Byt.full {w : World} {A : Option Addr} {n c : Nat} {l : List UInt8} (h : Byt w (.slice A n c) l) : Byt w (.slice (fullAt A n) n n) l := by
  have hl := h.len
  subst hl
  obtain ⟨A', c', e, h1, h2, h4⟩ := h
  injection e with e1 e2 e3
  subst e1 e3
  refine ⟨_, _, rfl, Nat.le_refl _, by omega, ?_⟩
  rcases h4 with h4 | ⟨g, o, rfl, hg, hc⟩
  · exact .inl h4
  · unfold fullAt
    split
    · exact .inr ⟨g, o, rfl, hg, hc⟩
    · exact .inr ⟨g, o, by simp [add_at], hg, hc⟩
theorem Byt.room {w : World} {A : Option Addr} {n c : Nat} {l : List UInt8} (h : Byt w (.slice A n c) l) : n ≤ c := by
  have hl := h.len
  obtain ⟨A', c', e, h1, _⟩ := h
  injection e with e1 e2 e3
  omega
theorem run_full {A : Option Addr} {n c : Nat} (w : World) (hc : n ≤ c) :
    (Instr.slice 22 (.slice A n c) none (some (.int .i64 (n : Int))) (some (.int .i64 (n : Int)))).run Try.prog w = .ok (.slice (fullAt A n) n n) w := by
  have hz : (sizeOf 5).run Try.prog w = .ok 1 w := by kernel_rfl
  simp [Instr.slice, run_underlying Try.underlying22, Instr.sliceBounds, run_sliceBound, hc, hz, fullAt]

set_option maxRecDepth 100000 in
set_option maxHeartbeats 4000000 in
theorem hold_any (A : Option Addr) (n c : Nat) (o : Bool) (l : List UInt8) (x : Int) (w : World) (h : Byt w (.slice A n c) l) (hm : l.length ≤ 1000) :
    Calls Try.prog 18 #[.agg #[.slice A n c, .bool o], .int .i64 x] w (PicOut o (holdL o l x) (holdC o l) w) := by
  have hl := h.len
  cases hk : pOpen o l with
  | false =>
    have hno := (pOpen_no _ _).1 hk
    have H1 : Hid (holdL o l x = l) := by show _ = _; unfold holdL; rw [if_neg (by simp [hk])]
    have H2 : Hid (holdC o l = -17) := by show _ = _; unfold holdC; rw [if_neg (by simp [hk])]
    have HB := Lib.hid (al_two w (.cells #[.slice A n c, .bool o] 24) (.cells #[.slice A n c, .bool o] 24))
    have HY := Lib.hid (h.keep HB.out)
    have hb : PBox _ _ _ _ _ _ ∧ PBox _ _ _ _ _ _ := box_two w (.slice A n c) (.bool o) (.slice A n c) (.bool o) 24 24
    obtain ⟨b3, b4, _, _⟩ := hb.2.use
    clear hb
    rw [H1.out, H2.out]
    unfold PicOut
    cases o with
    | false =>
      clear h hl hk hno
      go_enter Try.func18, Try.ntmps18
      go_wp2
      refine bodyPost_ret (v := .tuple #[.agg #[.slice A n c, .bool false], .int .i64 (-17)]) ?_ rfl ?_
      · simp [results, Try.results18, go_sem, b3, b4]
      · exact ⟨A, n, c, rfl, HY.out, HB.out⟩
    | true =>
      have h1 : (130 : Int) ≤ (n : Int) := by have := hl; simp at hno; omega
      clear h hl hk hno
      go_enter Try.func18, Try.ntmps18
      go_wp2
      refine bodyPost_ret (v := .tuple #[.agg #[.slice A n c, .bool true], .int .i64 (-17)]) ?_ rfl ?_
      · simp [results, Try.results18, go_sem, b3, b4]
      · exact ⟨A, n, c, rfl, HY.out, HB.out⟩
  | true =>
    obtain ⟨rfl, hlt⟩ := (pOpen_iff _ _).1 hk
    have H1 : Hid (holdL true l x = l ++ [byteI x]) := by show _ = _; unfold holdL; rw [if_pos hk]
    have H2 : Hid (holdC true l = 0) := by show _ = _; unfold holdC; rw [if_pos hk]
    obtain ⟨o1, ho1⟩ : ∃ o1 : Obj, .cells #[.slice A n c, .bool true] 24 = o1 := ⟨_, rfl⟩
    obtain ⟨o2, ho2⟩ : ∃ o2 : Obj, .cells #[.slice none 0 0, .bool false] 24 = o2 := ⟨_, rfl⟩
    obtain ⟨W, hW⟩ : ∃ W, (w.alloc o1).alloc o2 = W := ⟨_, rfl⟩
    have k2 := al_two w o1 o2
    have hs : W.heap.size = w.heap.size + 1 + 1 := by rw [← hW]; simp
    have hy := h.keep (k2.trans ((al_one _ (.cells #[.int .u8 (x % 256)] 5)).mono k2.size))
    have hb : PBox ((w.alloc o1).alloc o2) w.heap.size A n c true ∧ PBox ((w.alloc o1).alloc o2) (w.heap.size + 1) none 0 0 false := by rw [← ho1, ← ho2]; exact box_two _ _ _ _ _ _ _
    rw [hW] at k2 hy hb
    have HB := Lib.hid k2
    have HY := Lib.hid hy
    have HX := Lib.hid hb.2
    have HS := Lib.hid hs
    have HW := Lib.hid hW
    have hn : decide ((130 : Int) ≤ (n : Int)) = false := by simp; omega
    have HN : Hid (n < 130 ∧ l.length = n) := ⟨by omega, hl⟩
    have HF := Lib.hid hy.full
    have hlow := byt_low W x
    rw [hs] at hlow
    have HL := Lib.hid hlow
    clear hlow
    have hrf : ∀ w, _ := fun w => run_full (A := A) (n := n) (c := c) w hy.room
    rw [H1.out, H2.out]
    unfold PicOut
    clear h hl hk k2 hb hy hlt hW hs
    subst ho1 ho2
    go_enter Try.func18, Try.ntmps18
    go_wp2_with (at_builtin; first
      | (rw [HW.out]
         refine wpList_bgrow rfl _ _ rfl (fullAt A n) n n l rfl HF.out (w.heap.size + 1 + 1) [byteI x] rfl HL.out (by have := HN.out.1; omega) ?_
         intro v2 w2 u1 u2
         obtain ⟨A2, n2, c2, rfl⟩ := byt_slice u1.byt
         have u3 := below_then (al_one W (.cells #[.int .u8 (x % 256)] 5)) u2
         have O2 := Lib.hid u1
         have B2 := Lib.hid u3
         have X2 := Lib.hid (HX.out.keep u3)
         obtain ⟨b3, b4, b5, b6⟩ := X2.out.use
         have l3 := X2.out.lt
         clear u1 u2 u3 HY HF hrf))
    have X3 : PBox ((w2.setCell ⟨w.heap.size + 1, 0, none⟩ (.slice A2 n2 c2)).setCell ⟨w.heap.size + 1, 1, none⟩ (.bool true)) (w.heap.size + 1) A2 n2 c2 true := X2.out.put _ _
    obtain ⟨r0, r1, _, _⟩ := X3.use
    refine bodyPost_ret (v := .tuple #[.agg #[.slice A2 n2 c2, .bool true], .int .i64 0]) ?_ rfl ?_
    · simp [results, Try.results18, go_sem, r0, r1]
    · refine ⟨A2, n2, c2, rfl, ?_, ?_⟩
      · exact (O2.out.pset (b := w.heap.size + 1) (by have := HS.out; simp; omega) (.slice A2 n2 c2) (.bool true)).byt
      · exact below_pset (below_then HB.out B2.out) (by omega) _ _

set_option maxRecDepth 100000 in
theorem sign_any (A : Option Addr) (n c : Nat) (o : Bool) (l : List UInt8) (x : Int) (w : World) (h : Byt w (.slice A n c) l) (hm : l.length ≤ 1000) :
    Calls Try.prog 24 #[.agg #[.slice A n c, .bool o], .int .i64 x] w (PicOut o (signL o l x) (signC o l x) w) := by
  by_cases h0 : 0 ≤ x
  · have H1 : Hid (signL o l x = l) := by show _ = _; unfold signL; rw [if_neg (by omega)]
    have H2 : Hid (signC o l x = 0) := by show _ = _; unfold signC; rw [if_neg (by omega)]
    have HB := Lib.hid (al_two w (.cells #[.slice A n c, .bool o] 24) (.cells #[.slice A n c, .bool o] 24))
    have HY := Lib.hid (h.keep HB.out)
    have hb : PBox _ _ _ _ _ _ ∧ PBox _ _ _ _ _ _ := box_two w (.slice A n c) (.bool o) (.slice A n c) (.bool o) 24 24
    obtain ⟨b3, b4, _, _⟩ := hb.2.use
    rw [H1.out, H2.out]
    clear h hb
    go_enter Try.func24, Try.ntmps24
    go_wp2
    refine bodyPost_ret (v := .tuple #[.agg #[.slice A n c, .bool o], .int .i64 0]) ?_ rfl ?_
    · simp [results, Try.results24, go_sem, b3, b4]
    · exact ⟨A, n, c, rfl, HY.out, HB.out⟩
  · have H1 : Hid (signL o l x = holdL o l 45) := by show _ = _; unfold signL; rw [if_pos (by omega)]
    have H2 : Hid (signC o l x = holdC o l) := by show _ = _; unfold signC; rw [if_pos (by omega)]
    have h0' : decide (0 ≤ x) = false := by simp; omega
    obtain ⟨o1, ho1⟩ : ∃ o1 : Obj, .cells #[.slice A n c, .bool o] 24 = o1 := ⟨_, rfl⟩
    obtain ⟨o2, ho2⟩ : ∃ o2 : Obj, .cells #[.slice none 0 0, .bool false] 24 = o2 := ⟨_, rfl⟩
    obtain ⟨W, hW⟩ : ∃ W, (w.alloc o1).alloc o2 = W := ⟨_, rfl⟩
    have k2 := al_two w o1 o2
    have hb : PBox ((w.alloc o1).alloc o2) w.heap.size A n c o ∧ PBox ((w.alloc o1).alloc o2) (w.heap.size + 1) none 0 0 false := by rw [← ho1, ← ho2]; exact box_two _ _ _ _ _ _ _
    rw [hW] at k2 hb
    have HB := Lib.hid k2
    have HX := Lib.hid hb.2
    have HW := Lib.hid hW
    have HH := Lib.hid (hold_any A n c o l 45 W (h.keep k2) hm)
    rw [H1.out, H2.out]
    clear h h0 k2 hb hW
    subst ho1 ho2
    go_enter Try.func24, Try.ntmps24
    go_wp2_with fail
    rw [HW.out]
    refine HH.out.mono ?_
    rintro e w1 ⟨A2, n2, c2, rfl, hy, bb⟩
    have HY := Lib.hid hy
    have B2 := Lib.hid bb
    have X2 := Lib.hid (HX.out.keep bb)
    obtain ⟨b3, b4, b5, b6⟩ := X2.out.use
    have l3 := X2.out.lt
    clear hy bb HH
    go_wp2_with fail
    have X3 : PBox ((w1.setCell ⟨w.heap.size + 1, 0, none⟩ (.slice A2 n2 c2)).setCell ⟨w.heap.size + 1, 1, none⟩ (.bool o)) (w.heap.size + 1) A2 n2 c2 o := X2.out.put _ _
    obtain ⟨r0, r1, _, _⟩ := X3.use
    refine bodyPost_ret (v := .tuple #[.agg #[.slice A2 n2 c2, .bool o], .int .i64 (holdC o l)]) ?_ rfl ?_
    · simp [results, Try.results24, go_sem, r0, r1]
    · exact ⟨A2, n2, c2, rfl, byt_pset HY.out X2.out _ _, below_pset (below_then HB.out B2.out) (by omega) _ _⟩
end Go.Proofs.Ytphbeghflbkpgaa

/- Contracts of the program's isBase, onward, what it hands back, and Digit. -/
namespace Go.Proofs.Ytphbeghflbkpgaa
open Go.RowKit
set_option linter.unusedVariables false
set_option linter.unusedSimpArgs false

theorem isW_zero (b : Int) : isW 48 b = baseB b := by
  unfold isW baseB wN
  rw [decide_eq_decide]
  simp
  omega

set_option maxRecDepth 100000 in
theorem pbase_any (b : Int) (w : World) : Calls Try.prog 33 #[.int .i64 b] w fun e w' => e = .returned (.bool (baseB b)) ∧ Below w.heap.size w w' := by
  have HW := Lib.hid (worth_any 48 b w (by omega))
  rw [isW_zero] at HW
  obtain ⟨x, hx⟩ : ∃ x, worthF 48 b = x := ⟨_, rfl⟩
  obtain ⟨y, hy⟩ : ∃ y, baseB b = y := ⟨_, rfl⟩
  rw [hx, hy] at HW
  rw [hy]
  clear hx hy
  go_enter Try.func33, Try.ntmps33
  go_wp2_with fail
  refine HW.out.mono ?_
  rintro e w1 ⟨rfl, bb⟩
  go_wp2
  go_ret
  exact ⟨rfl, bb⟩

set_option maxHeartbeats 400000 in
theorem onward_any (b : Int) (w : World) :
    Calls Try.prog 34 #[.int .i64 b] w fun e w' => ∃ p : Addr, e = .returned (.func (.func 40) #[] #[.pointer (some p)]) ∧ w'.cell? p = some (.int .i64 b) ∧ p.block < w'.heap.size ∧ Below w.heap.size w w' := by
  have hmf : ∀ (fn : Fn) (first cap : Array Value) (w : World), (Instr.makeFunc fn first cap).run Try.prog w = .ok (.func fn first cap) w := fun _ _ _ _ => rfl
  go_enter Try.func34, Try.ntmps34
  go_wp2
  go_ret
  exact ⟨_, rfl, by simp, by simp, al_one _ _⟩

theorem cell_keep {w w' : World} {p : Addr} {v : Value} (h : w.cell? p = some v) (hp : p.block < w.heap.size) (b : Below w.heap.size w w') : w'.cell? p = some v := by
  rw [← h]
  exact Below.cell b hp

set_option maxRecDepth 100000 in
theorem next_any (lo hi : Int) (k : Nat) (p : Addr) (w : World) (h2 : 2 ≤ k) (h36 : k ≤ 36) (hp : w.cell? p = some (.int .i64 (k : Int))) (hb : p.block < w.heap.size) :
    Calls Try.prog 40 #[.int .i64 lo, .int .i64 hi, .pointer (some p)] w fun e w' => e = .returned (.tuple #[.int .i64 (lowI (pairN lo hi / k)), .int .i64 (highI (pairN lo hi / k)), .int .i64 ((pairN lo hi % k : Nat) : Int)]) ∧ Below w.heap.size w w' := by
  obtain ⟨f1, f2, f3, f4⟩ := dig_facts lo hi k h2 h36
  obtain ⟨g1, g2, g3⟩ := udiv_facts hi (un hi) k rfl h2 h36
  have hH := un_lt hi
  obtain ⟨H, eH⟩ : ∃ H, un hi = H := ⟨_, rfl⟩
  rw [eH] at f1 f2 f3 f4 g1 g2 hH
  have f5 : ((H / k : Nat) : Int) = highI (pairN lo hi / k) := by
    rw [← f4]
    have h5 : H / k ≤ H / 2 := Nat.div_le_div_left h2 (by omega)
    obtain ⟨t, et⟩ : ∃ t, H / k = t := ⟨_, rfl⟩
    rw [et] at h5 ⊢
    exact (w64_id (by omega) (by omega)).symm
  have h1 : Hid (∀ w, Calls Try.prog 41 #[.int .i64 hi, .int .i64 0, .int .i64 (k : Int)] w fun e w' => e = .returned (.tuple #[.int .i64 (highI (pairN lo hi / k)), .int .i64 ((H % k : Nat) : Int), .int .i64 0]) ∧ Below w.heap.size w w') := by
    show ∀ _, _
    intro w
    have := udiv_any hi 0 (k : Int) w (by unfold cellR; omega)
    rw [g1, g2, g3, f5] at this
    exact this
  have h3 : Hid (∀ w, Calls Try.prog 41 #[.int .i64 lo, .int .i64 ((H % k : Nat) : Int), .int .i64 (k : Int)] w fun e w' => e = .returned (.tuple #[.int .i64 (lowI (pairN lo hi / k)), .int .i64 ((pairN lo hi % k : Nat) : Int), .int .i64 0]) ∧ Below w.heap.size w w') := by
    show ∀ _, _
    intro w
    have := udiv_any lo ((H % k : Nat) : Int) (k : Int) w (by unfold cellR; omega)
    rw [f1, f2, f3] at this
    exact this
  obtain ⟨a1, e1⟩ : ∃ a, highI (pairN lo hi / k) = a := ⟨_, rfl⟩
  obtain ⟨a2, e2⟩ : ∃ a, ((H % k : Nat) : Int) = a := ⟨_, rfl⟩
  obtain ⟨a3, e3⟩ : ∃ a, lowI (pairN lo hi / k) = a := ⟨_, rfl⟩
  obtain ⟨a4, e4⟩ : ∃ a, ((pairN lo hi % k : Nat) : Int) = a := ⟨_, rfl⟩
  obtain ⟨K, e5⟩ : ∃ K : Int, (k : Int) = K := ⟨_, rfl⟩
  rw [e1, e2, e5] at h1
  rw [e2, e3, e4, e5] at h3
  rw [e1, e3, e4]
  rw [e5] at hp
  clear f1 f2 f3 f4 f5 g1 g2 g3 hH eH e1 e2 e3 e4 e5 h2 h36
  go_enter Try.func40, Try.ntmps40
  go_wp2_with fail
  refine (h1.out _).mono ?_
  rintro e w1 ⟨rfl, b1⟩
  have hp1 := cell_keep hp hb b1
  go_wp2_with fail
  refine (h3.out _).mono ?_
  rintro e w2 ⟨rfl, b2⟩
  go_wp2
  go_ret3
  exact ⟨rfl, below_then b1 b2⟩

set_option maxRecDepth 100000 in
set_option maxHeartbeats 4000000 in
theorem digit_same (n : Int) (w : World) :
    Calls Try.prog 35 #[.int .i64 n] w fun e w' => e = .returned (.int .u8 (digF n)) ∧ w = w' := by
  by_cases h0 : 0 ≤ n
  · by_cases h9 : n < 10
    · have H : Hid (digF n = 48 + n) := by
        show _ = _
        unfold digF digN
        rw [if_pos h0, if_pos (by omega)]
        omega
      go_enter Try.func35, Try.ntmps35
      go_wp2
      go_ret
      exact ⟨ret_int H.out.symm, rfl⟩
    · have h9' : decide (n < 10) = false := by simp; omega
      have h10 : 10 ≤ n := by omega
      by_cases h35 : n < 36
      · have H : Hid (digF n = 65 + n - 10) := by
          show _ = _
          unfold digF digN
          rw [if_pos h0, if_neg (by omega), if_pos (by omega)]
          omega
        clear h9
        go_enter Try.func35, Try.ntmps35
        go_wp2
        go_ret
        exact ⟨ret_int H.out.symm, rfl⟩
      · have h35' : decide (n < 36) = false := by simp; omega
        have H : Hid (digF n = 63) := by
          show _ = _
          unfold digF digN
          rw [if_pos h0, if_neg (by omega), if_neg (by omega)]
          rfl
        clear h9 h35
        go_enter Try.func35, Try.ntmps35
        go_wp2
        go_ret
        exact ⟨ret_int H.out.symm, rfl⟩
  · have h0' : decide (0 ≤ n) = false := by simp; omega
    have h10' : decide (10 ≤ n) = false := by simp; omega
    have H : Hid (digF n = 63) := by
      show _ = _
      unfold digF
      rw [if_neg h0]
    clear h0
    go_enter Try.func35, Try.ntmps35
    go_wp2
    go_ret
    exact ⟨ret_int H.out.symm, rfl⟩

set_option maxRecDepth 100000 in
theorem dig_fail (A : Option Addr) (n c : Nat) (o : Bool) (l : List UInt8) (lo hi b : Int) (w : World) (h : Byt w (.slice A n c) l) (hb : baseB b = false) :
    Calls Try.prog 20 #[.agg #[.slice A n c, .bool o], .int .i64 lo, .int .i64 hi, .int .i64 b] w (DigOut o l lo hi (-24) w) := by
  obtain ⟨o1, ho1⟩ : ∃ o1 : Obj, .cells #[.slice A n c, .bool o] 24 = o1 := ⟨_, rfl⟩
  obtain ⟨o2, ho2⟩ : ∃ o2 : Obj, .cells #[.slice none 0 0, .bool false] 24 = o2 := ⟨_, rfl⟩
  obtain ⟨W, hW⟩ : ∃ W, (w.alloc o1).alloc o2 = W := ⟨_, rfl⟩
  have kk := al_two w o1 o2
  have hx : PBox ((w.alloc o1).alloc o2) w.heap.size A n c o ∧ PBox ((w.alloc o1).alloc o2) (w.heap.size + 1) none 0 0 false := by rw [← ho1, ← ho2]; exact box_two _ _ _ _ _ _ _
  rw [hW] at kk hx
  have HB := Lib.hid kk
  have HX := Lib.hid hx.2
  have HP := Lib.hid hx.1
  have HW := Lib.hid hW
  have HY := Lib.hid (h.keep kk)
  have HQ := Lib.hid (pbase_any b W)
  rw [hb] at HQ
  clear h kk hx hW hb
  subst ho1 ho2
  go_enter Try.func20, Try.ntmps20
  go_wp2_with fail
  rw [HW.out]
  refine HQ.out.mono ?_
  rintro e w1 ⟨rfl, b1⟩
  have XP := Lib.hid (Box.keep HP.out b1)
  have XZ := Lib.hid (Box.keep HX.out b1)
  obtain ⟨p0, p1, _, _⟩ := XP.out.use
  obtain ⟨z0, z1, z2, z3⟩ := XZ.out.use
  have lz := XZ.out.lt
  have HBB := Lib.hid (below_then HB.out b1)
  have HYY := Lib.hid (HY.out.keep b1)
  clear b1 HQ
  go_wp2_with fail
  obtain ⟨r0, r1, _, _⟩ := (PBox.put XZ.out (.slice A n c) (.bool o)).use
  refine bodyPost_ret (v := .tuple #[.agg #[.slice A n c, .bool o], .int .i64 lo, .int .i64 hi, .int .i64 (-24)]) ?_ rfl ?_
  · simp [results, Try.results20, go_sem, r0, r1]
  · exact ⟨A, n, c, rfl, byt_pset HYY.out XZ.out _ _, below_pset HBB.out (by omega) _ _⟩

set_option maxRecDepth 100000 in
set_option maxHeartbeats 4000000 in
theorem dig_any (A : Option Addr) (n c : Nat) (o : Bool) (l : List UInt8) (lo hi b : Int) (w : World) (h : Byt w (.slice A n c) l) (hm : l.length ≤ 1000) (hlo : cellR lo) (hhi : cellR hi) (hb9 : cellR b) :
    Calls Try.prog 20 #[.agg #[.slice A n c, .bool o], .int .i64 lo, .int .i64 hi, .int .i64 b] w (DigOut o (digL o l lo hi b) (digLo o l lo hi b) (digHi o l lo hi b) (digC o l b) w) := by
  cases hb : baseB b with
  | false =>
    obtain ⟨H1, H2, H3, H4⟩ := dig_no (o := o) (l := l) hb lo hi
    rw [H1, H2, H3, H4]
    exact dig_fail A n c o l lo hi b w h hb
  | true =>
    obtain ⟨b2, b36⟩ := (baseB_iff b).1 hb
    obtain ⟨k, rfl⟩ := Int.eq_ofNat_of_zero_le (by omega : 0 ≤ b)
    have hk2 : 2 ≤ k := by omega
    have hk36 : k ≤ 36 := by omega
    have HN : Hid (∀ (p : Addr) (w : World), w.cell? p = some (.int .i64 (k : Int)) → p.block < w.heap.size → Calls Try.prog 40 #[.int .i64 lo, .int .i64 hi, .pointer (some p)] w fun e w' => e = .returned (.tuple #[.int .i64 (lowI (pairN lo hi / k)), .int .i64 (highI (pairN lo hi / k)), .int .i64 ((pairN lo hi % k : Nat) : Int)]) ∧ Below w.heap.size w w') := Lib.hid fun p w h h' => next_any lo hi k p w hk2 hk36 h h'
    have HD := Lib.hid (byte_dig (pairN lo hi) k)
    have hdu : digU lo hi (k : Int) = UInt8.ofNat (digN (pairN lo hi % k)) := rfl
    obtain ⟨x, ex⟩ : ∃ x, UInt8.ofNat (digN (pairN lo hi % k)) = x := ⟨_, rfl⟩
    rw [ex] at HD hdu
    obtain ⟨m, em⟩ : ∃ m, ((pairN lo hi % k : Nat) : Int) = m := ⟨_, rfl⟩
    rw [em] at HD HN
    obtain ⟨Lo, eLo⟩ : ∃ y, lowI (pairN lo hi / k) = y := ⟨_, rfl⟩
    obtain ⟨T, eT⟩ : ∃ T, highI (pairN lo hi / k) = T := ⟨_, rfl⟩
    rw [eLo, eT] at HN
    have x64 : IntKind.i64.wrap (x.toNat : Int) = (x.toNat : Int) := IntWalk.i64_in _ ⟨by omega, by have := x.toNat_lt; omega⟩
    obtain ⟨o1, ho1⟩ : ∃ o1 : Obj, .cells #[.slice A n c, .bool o] 24 = o1 := ⟨_, rfl⟩
    obtain ⟨o2, ho2⟩ : ∃ o2 : Obj, .cells #[.slice none 0 0, .bool false] 24 = o2 := ⟨_, rfl⟩
    obtain ⟨W, hW⟩ : ∃ W, (w.alloc o1).alloc o2 = W := ⟨_, rfl⟩
    have kk := al_two w o1 o2
    have hx : PBox ((w.alloc o1).alloc o2) w.heap.size A n c o ∧ PBox ((w.alloc o1).alloc o2) (w.heap.size + 1) none 0 0 false := by rw [← ho1, ← ho2]; exact box_two _ _ _ _ _ _ _
    rw [hW] at kk hx
    have HB := Lib.hid kk
    have HX := Lib.hid hx.2
    have HP := Lib.hid hx.1
    have HW := Lib.hid hW
    have HY := Lib.hid (h.keep kk)
    have HQ := Lib.hid (pbase_any (k : Int) W)
    rw [hb] at HQ
    obtain ⟨K, eK⟩ : ∃ K : Int, (k : Int) = K := ⟨_, rfl⟩
    cases hk : pOpen o l with
    | false =>
      obtain ⟨H1, H2, H3, H4⟩ := dig_full (o := o) (l := l) hb hk lo hi
      rw [H1, H2, H3, H4]
      obtain ⟨HHL, HHC0⟩ : holdL o l (x.toNat : Int) = l ∧ holdC o l = -17 := by unfold holdL holdC; rw [if_neg (by simp [hk]), if_neg (by simp [hk])]; exact ⟨rfl, rfl⟩
      have HHC : Hid (∀ a, Byt a (.slice A n c) l → Calls Try.prog 18 #[.agg #[.slice A n c, .bool o], .int .i64 (x.toNat : Int)] a (PicOut o l (-17) a)) := by
        show ∀ _, _
        intro a k
        have := hold_any A n c o l (x.toNat : Int) a k hm
        rw [HHL, HHC0] at this
        exact this
      rw [eK] at HN HQ
      rw [eK]
      clear h H1 H2 H3 H4 hW hx kk ex hb em eLo eT eK HHC0 hdu b2 b36 hk2 hk36
      subst ho1 ho2
      clear HHL
      go_enter Try.func20, Try.ntmps20
      go_wp2_with fail
      rw [HW.out]
      refine HQ.out.mono ?_
      rintro e w1 ⟨rfl, b1⟩
      go_wp2_with fail
      refine (onward_any _ _).mono ?_
      rintro e w2 ⟨p, rfl, hp, hpb, b2⟩
      have b12 := below_then b1 b2
      clear b1 b2
      go_wp2_with fail
      refine (HN.out p _ hp hpb).mono ?_
      rintro e V ⟨rfl, b3⟩
      have b13 := below_then b12 b3
      have HVB := Lib.hid (below_then HB.out b13)
      have HVX := Lib.hid (Box.keep HX.out b13)
      have HVP := Lib.hid (Box.keep HP.out b13)
      have HVY := Lib.hid (HY.out.keep b13)
      have SB : Hid (∀ a, Below V.heap.size V a → (a.cell? ⟨w.heap.size, 0, none⟩ = some (.slice A n c) ∧ a.cell? ⟨w.heap.size, 1, none⟩ = some (.bool o) ∧ Below V.heap.size V a)) := Lib.hid fun a h => ⟨(Box.use (Box.keep HVP.out h)).1, (Box.use (Box.keep HVP.out h)).2.1, h⟩
      have HH : Hid (∀ a, Below V.heap.size V a → Calls Try.prog 18 #[.agg #[.slice A n c, .bool o], .int .i64 (x.toNat : Int)] a fun e w' => ∃ A' n' c', e = .returned (.tuple #[.agg #[.slice A' n' c', .bool o], .int .i64 (-17)]) ∧ Byt w' (.slice A' n' c') l ∧ Below a.heap.size a w') := by
        show ∀ _, _
        intro a k
        exact HHC.out a (HVY.out.keep k)
      obtain ⟨s0, s1, s2⟩ := SB.out V (Below.refl _ _)
      clear b12 b3 hp hpb b13 HQ HHC s2
      go_wp2_with fail
      refine wp_region_noPanic ?_
      go_region_held3 (fun a => a.cell? ⟨w.heap.size, 0, none⟩ = some (.slice A n c) ∧ a.cell? ⟨w.heap.size, 1, none⟩ = some (.bool o) ∧ Below V.heap.size V a) (first | assumption | exact SB.out _ (since_d _) | exact SB.out _ (since_ad _ _) | exact SB.out _ (since_aa s4.2.2 _) | exact SB.out _ (below_pset s4.2.2 (Nat.le_refl _) _ _) | exact SB.out _ (below_pset (since_aa s4.2.2 _) s4.2.2.size _ _))
        (first
          | (go_at_call 35; ((with_reducible refine (digit_same _ _).mono ?_); rw [HD.out]; rintro ed wd ⟨rfl, rfl⟩))
          | (go_at_call 18; ((with_reducible refine (HH.out _ (by assumption : _ ∧ _ ∧ Below V.heap.size V _).2.2).mono ?_); rintro e4 w4 ⟨A4, n4, c4, rfl, hy4, b4⟩; have s4 := SB.out _ (below_then (by assumption : _ ∧ _ ∧ Below V.heap.size V _).2.2 b4); have Q3 := Lib.hid (Box.keep_h (pbox_new V none 0 0 false) b4 rfl); obtain ⟨q2, q3, q4, q5⟩ := Q3.out.use))
          | (go_at_call 18; ((with_reducible refine (HH.out _ (by assumption : _ ∧ _ ∧ Below V.heap.size V _).2.2).mono ?_); rintro e4 w4 ⟨A4, n4, c4, rfl, hy4, b4⟩; have s4 := SB.out _ (below_then (by assumption : _ ∧ _ ∧ Below V.heap.size V _).2.2 b4))))
      all_goals (refine NoPanic.normal ?_)
      all_goals (first
        | (obtain ⟨wf, hwf, zf, bf⟩ := ppack (W := V) (o' := o) Q3.out hy4 s4.2.2 (Nat.le_refl _); rw [hwf]; clear hwf)
        | (obtain ⟨wf, hwf, zf, bf⟩ := papack (W := V) (o := o) hy4 s4.2.2; rw [hwf]; clear hwf))
      all_goals (have XP := Lib.hid (Box.keep HVP.out bf); have XZ := Lib.hid (Box.keep HVX.out bf); obtain ⟨p0, p1, _, _⟩ := XP.out.use; obtain ⟨z0, z1, z2, z3⟩ := XZ.out.use; have lz := XZ.out.lt; have HBB := Lib.hid (below_then HVB.out bf); have HYY := Lib.hid (HVY.out.keep bf); obtain ⟨x0, x1⟩ := zf.out.use; clear bf)
      all_goals go_wp2_with fail
      all_goals (obtain ⟨r0, r1, _, _⟩ := (PBox.put XZ.out (.slice A n c) (.bool o)).use)
      all_goals refine bodyPost_ret (v := .tuple #[.agg #[.slice A n c, .bool o], .int .i64 lo, .int .i64 hi, .int .i64 (-17)]) ?_ rfl ?_
      all_goals first
        | (simp [results, Try.results20, go_sem, r0, r1]; done)
        | exact ⟨A, n, c, rfl, byt_pset HYY.out XZ.out _ _, below_pset HBB.out (by omega) _ _⟩
    | true =>
      obtain ⟨H1, H2, H3, H4⟩ := dig_ok (o := o) (l := l) hb hk lo hi
      rw [Int.toNat_natCast] at H2 H3
      rw [hdu] at H1
      rw [eLo] at H2
      rw [eT] at H3
      rw [H1, H2, H3, H4]
      obtain ⟨HHL, HHC0⟩ : holdL o l (x.toNat : Int) = l ++ [x] ∧ holdC o l = 0 := by unfold holdL holdC; rw [if_pos hk, if_pos hk, byteI_u8]; exact ⟨rfl, rfl⟩
      have HHC : Hid (∀ a, Byt a (.slice A n c) l → Calls Try.prog 18 #[.agg #[.slice A n c, .bool o], .int .i64 (x.toNat : Int)] a (PicOut o (l ++ [x]) 0 a)) := by
        show ∀ _, _
        intro a k
        have := hold_any A n c o l (x.toNat : Int) a k hm
        rw [HHL, HHC0] at this
        exact this
      rw [eK] at HN HQ
      rw [eK]
      clear h H1 H2 H3 H4 hW hx kk ex hb em eLo eT eK HHC0 hdu b2 b36 hk2 hk36
      subst ho1 ho2
      clear HHL
      go_enter Try.func20, Try.ntmps20
      go_wp2_with fail
      rw [HW.out]
      refine HQ.out.mono ?_
      rintro e w1 ⟨rfl, b1⟩
      go_wp2_with fail
      refine (onward_any _ _).mono ?_
      rintro e w2 ⟨p, rfl, hp, hpb, b2⟩
      have b12 := below_then b1 b2
      clear b1 b2
      go_wp2_with fail
      refine (HN.out p _ hp hpb).mono ?_
      rintro e V ⟨rfl, b3⟩
      have b13 := below_then b12 b3
      have HVB := Lib.hid (below_then HB.out b13)
      have HVX := Lib.hid (Box.keep HX.out b13)
      have HVP := Lib.hid (Box.keep HP.out b13)
      have HVY := Lib.hid (HY.out.keep b13)
      have SB : Hid (∀ a, Below V.heap.size V a → (a.cell? ⟨w.heap.size, 0, none⟩ = some (.slice A n c) ∧ a.cell? ⟨w.heap.size, 1, none⟩ = some (.bool o) ∧ Below V.heap.size V a)) := Lib.hid fun a h => ⟨(Box.use (Box.keep HVP.out h)).1, (Box.use (Box.keep HVP.out h)).2.1, h⟩
      have HH : Hid (∀ a, Below V.heap.size V a → Calls Try.prog 18 #[.agg #[.slice A n c, .bool o], .int .i64 (x.toNat : Int)] a fun e w' => ∃ A' n' c', e = .returned (.tuple #[.agg #[.slice A' n' c', .bool o], .int .i64 (0)]) ∧ Byt w' (.slice A' n' c') (l ++ [x]) ∧ Below a.heap.size a w') := by
        show ∀ _, _
        intro a k
        exact HHC.out a (HVY.out.keep k)
      obtain ⟨s0, s1, s2⟩ := SB.out V (Below.refl _ _)
      clear b12 b3 hp hpb b13 HQ HHC s2
      go_wp2_with fail
      refine wp_region_noPanic ?_
      go_region_held3 (fun a => a.cell? ⟨w.heap.size, 0, none⟩ = some (.slice A n c) ∧ a.cell? ⟨w.heap.size, 1, none⟩ = some (.bool o) ∧ Below V.heap.size V a) (first | assumption | exact SB.out _ (since_d _) | exact SB.out _ (since_ad _ _) | exact SB.out _ (since_aa s4.2.2 _) | exact SB.out _ (below_pset s4.2.2 (Nat.le_refl _) _ _) | exact SB.out _ (below_pset (since_aa s4.2.2 _) s4.2.2.size _ _))
        (first
          | (go_at_call 35; ((with_reducible refine (digit_same _ _).mono ?_); rw [HD.out]; rintro ed wd ⟨rfl, rfl⟩))
          | (go_at_call 18; ((with_reducible refine (HH.out _ (by assumption : _ ∧ _ ∧ Below V.heap.size V _).2.2).mono ?_); rintro e4 w4 ⟨A4, n4, c4, rfl, hy4, b4⟩; have s4 := SB.out _ (below_then (by assumption : _ ∧ _ ∧ Below V.heap.size V _).2.2 b4); have Q3 := Lib.hid (Box.keep_h (pbox_new V none 0 0 false) b4 rfl); obtain ⟨q2, q3, q4, q5⟩ := Q3.out.use))
          | (go_at_call 18; ((with_reducible refine (HH.out _ (by assumption : _ ∧ _ ∧ Below V.heap.size V _).2.2).mono ?_); rintro e4 w4 ⟨A4, n4, c4, rfl, hy4, b4⟩; have s4 := SB.out _ (below_then (by assumption : _ ∧ _ ∧ Below V.heap.size V _).2.2 b4))))
      all_goals (refine NoPanic.normal ?_)
      all_goals (first
        | (obtain ⟨wf, hwf, zf, bf⟩ := ppack (W := V) (o' := o) Q3.out hy4 s4.2.2 (Nat.le_refl _); rw [hwf]; clear hwf)
        | (obtain ⟨wf, hwf, zf, bf⟩ := papack (W := V) (o := o) hy4 s4.2.2; rw [hwf]; clear hwf))
      all_goals (have XP := Lib.hid (Box.keep HVP.out bf); have XZ := Lib.hid (Box.keep HVX.out bf); obtain ⟨p0, p1, _, _⟩ := XP.out.use; obtain ⟨z0, z1, z2, z3⟩ := XZ.out.use; have lz := XZ.out.lt; have HBB := Lib.hid (below_then HVB.out bf); have HYY := Lib.hid (zf.out.byt); obtain ⟨x0, x1⟩ := zf.out.use; clear bf)
      all_goals go_wp2_with fail
      all_goals (obtain ⟨r0, r1, _, _⟩ := (PBox.put XZ.out (.slice A4 n4 c4) (.bool o)).use)
      all_goals refine bodyPost_ret (v := .tuple #[.agg #[.slice A4 n4 c4, .bool o], .int .i64 Lo, .int .i64 T, .int .i64 0]) ?_ rfl ?_
      all_goals first
        | (simp [results, Try.results20, go_sem, r0, r1]; done)
        | exact ⟨A4, n4, c4, rfl, byt_pset HYY.out XZ.out _ _, below_pset HBB.out (by omega) _ _⟩
end Go.Proofs.Ytphbeghflbkpgaa
