/- Part 19. -/
import Derived.Test.YtlgnijhemfkflaaGreatDoorSetPrimDividesZero
import Derived.Test.YtlgnijhemfkflaaGreatDoorSetPrimDividesR
import Derived.Test.YtlgnijhemfkflaaGreatDoorSetPrimDividesF
set_option linter.unusedVariables false
set_option linter.unusedSimpArgs false

namespace Go.Proofs.YtlgnijhemfkflaaGreatDoor
open Go.RowKit
set_option linter.unusedVariables false
set_option linter.unusedSimpArgs false
set_option maxRecDepth 100000 in
theorem wpList_bgrow {ops : Array Oper} {rest : List Oper} {o : Oper} {a : Act} {Q : Exit → Act → World → Prop} {w : World} (hgd : o.guard = none) (s x : Operand)
    (ho : o.op = .call { callee := .builtin .append, args := #[s, x], argTypes := #[24, 24] })
    (A : Option Addr) (n c : Nat) (l : List UInt8) (hs : a.eval s = .slice A n n) (hy : Byt w (.slice A n c) l)
    (g : Nat) (z : List UInt8) (hx : a.eval x = .slice (some ⟨g, 0, none⟩) 1 1) (hz : Byt w (.slice (some ⟨g, 0, none⟩) 1 1) z) (hn : n ≤ 1000)
    (h : ∀ v' w', BOwns w' w.heap.size v' (n + 1) (l ++ z) → Below w.heap.size w w' → wpList Tryz.prog ops Q rest (a.put o.dst v') w') : wpList Tryz.prog ops Q (o :: rest) a w := by
  obtain ⟨i0, hi, hz0, hz1, hz2⟩ := info_parts info_u8;have hl := hy.len;have hzl := hz.len;have hli := hy.lies;have hlz := hz.lies;refine wpList_append_grows w hgd s x _ ho 5 i0 (.int .u8 0) 1 1 Tryz.underlying24 hi hz0 hz1 hz2 rfl (by decide) A n n (u8s l) hs ?_ (by rw [u8s_len, hl, Nat.mul_one]) ?_ ⟨g, 0, none⟩ 1 1 (u8s z) hx (by rw [u8s_len, hzl]) ?_ (u8s_one z) (by omega) (by unfold maxLen; omega) (by omega) fun v' w' h1 h2 => h v' w' ?_ ?_
  · intro e
    subst e
    rcases hli with hli | ⟨_, _, e, _⟩
    · have := congrArg List.length hli
      rw [u8s_len] at this;have h0 : l.length = 0 := this;omega
    · cases e
  · intro b hb j u hu
    rcases hli with hli | ⟨g2, o2, e, _, hc⟩
    · rw [hli] at hu; simp at hu
    · rw [hb] at e
      injection e with e
      rw [e, add_at];exact hc j u hu
  · intro j u hu
    rcases hlz with hli | ⟨g2, o2, e, _, hc⟩
    · rw [hli] at hu; simp at hu
    · injection e with e
      rw [e, add_at];exact hc j u hu
  · have e := u8s_app l z
    unfold BOwns;rw [e];exact h1
  · exact (Below.refl _ w).grown h2 (Nat.le_refl _) (fun k hk => by cases hk)
def fullAt (A : Option Addr) (n : Nat) : Option Addr := if n = 0 then A else A.map (·.add (0 * 1))
theorem Byt.full {w : World} {A : Option Addr} {n c : Nat} {l : List UInt8} (h : Byt w (.slice A n c) l) : Byt w (.slice (fullAt A n) n n) l := by
  have hl := h.len;subst hl;obtain ⟨A', c', e, h1, h2, h4⟩ := h;injection e with e1 e2 e3
  subst e1 e3;refine ⟨_, _, rfl, Nat.le_refl _, by omega, ?_⟩
  rcases h4 with h4 | ⟨g, o, rfl, hg, hc⟩
  · exact .inl h4
  · unfold fullAt
    split
    · exact .inr ⟨g, o, rfl, hg, hc⟩
    · exact .inr ⟨g, o, by simp [add_at], hg, hc⟩
theorem Byt.room {w : World} {A : Option Addr} {n c : Nat} {l : List UInt8} (h : Byt w (.slice A n c) l) : n ≤ c := by
  have hl := h.len;obtain ⟨A', c', e, h1, _⟩ := h;injection e with e1 e2 e3
  omega
theorem run_full {A : Option Addr} {n c : Nat} (w : World) (hc : n ≤ c) :
    (Instr.slice 24 (.slice A n c) none (some (.int .i64 (n : Int))) (some (.int .i64 (n : Int)))).run Tryz.prog w = .ok (.slice (fullAt A n) n n) w := by
  have hz : (sizeOf 5).run Tryz.prog w = .ok 1 w := by kernel_rfl
  simp [Instr.slice, run_underlying Tryz.underlying24, Instr.sliceBounds, run_sliceBound, hc, hz, fullAt]
set_option maxRecDepth 100000 in
set_option maxHeartbeats 4000000 in
theorem hold_any (A : Option Addr) (n c : Nat) (o : Bool) (l : List UInt8) (x : Int) (w : World) (h : Byt w (.slice A n c) l) (hm : l.length ≤ 1000) :
    Calls Tryz.prog 148 #[.agg #[.slice A n c, .bool o], .int .i64 x] w (PicOut o (holdL o l x) (holdC o l) w) := by
  have hl := h.len;cases hk : pOpen o l with
  | false =>
    have hno := (pOpen_no _ _).1 hk;have H1 : Hid (holdL o l x = l) := by show _ = _; unfold holdL; rw [if_neg (by simp [hk])]
    have H2 : Hid (holdC o l = -17) := by show _ = _; unfold holdC; rw [if_neg (by simp [hk])]
    have HB := Lib.hid (al_two w (.cells #[.slice A n c, .bool o] 32) (.cells #[.slice A n c, .bool o] 32));have HY := Lib.hid (h.keep HB.out);have hb : PBox _ _ _ _ _ _ ∧ PBox _ _ _ _ _ _ := box_two w (.slice A n c) (.bool o) (.slice A n c) (.bool o) 32 32;obtain ⟨b3, b4, _, _⟩ := hb.2.use;clear hb;rw [H1.out, H2.out];unfold PicOut;cases o with
    | false =>
      clear h hl hk hno;go_enter Tryz.func148, Tryz.ntmps148;go_wp2;refine bodyPost_ret (v := .tuple #[.agg #[.slice A n c, .bool false], .int .i64 (-17)]) ?_ rfl ?_
      · simp [results, Tryz.results148, go_sem, b3, b4]
      · exact ⟨A, n, c, rfl, HY.out, HB.out⟩
    | true =>
      have h1 : (130 : Int) ≤ (n : Int) := by have := hl; simp at hno; omega
      clear h hl hk hno;go_enter Tryz.func148, Tryz.ntmps148;go_wp2;refine bodyPost_ret (v := .tuple #[.agg #[.slice A n c, .bool true], .int .i64 (-17)]) ?_ rfl ?_
      · simp [results, Tryz.results148, go_sem, b3, b4]
      · exact ⟨A, n, c, rfl, HY.out, HB.out⟩
  | true =>
    obtain ⟨rfl, hlt⟩ := (pOpen_iff _ _).1 hk;have H1 : Hid (holdL true l x = l ++ [byteI x]) := by show _ = _; unfold holdL; rw [if_pos hk]
    have H2 : Hid (holdC true l = 0) := by show _ = _; unfold holdC; rw [if_pos hk]
    obtain ⟨o1, ho1⟩ : ∃ o1 : Obj, .cells #[.slice A n c, .bool true] 32 = o1 := ⟨_, rfl⟩;obtain ⟨o2, ho2⟩ : ∃ o2 : Obj, .cells #[.slice none 0 0, .bool false] 32 = o2 := ⟨_, rfl⟩;obtain ⟨W, hW⟩ : ∃ W, (w.alloc o1).alloc o2 = W := ⟨_, rfl⟩;have k2 := al_two w o1 o2;have hs : W.heap.size = w.heap.size + 1 + 1 := by rw [← hW]; simp
    have hy := h.keep (k2.trans ((al_one _ (.cells #[.int .u8 (x % 256)] 5)).mono k2.size));have hb : PBox ((w.alloc o1).alloc o2) w.heap.size A n c true ∧ PBox ((w.alloc o1).alloc o2) (w.heap.size + 1) none 0 0 false := by rw [← ho1, ← ho2]; exact box_two _ _ _ _ _ _ _
    rw [hW] at k2 hy hb;have HB := Lib.hid k2;have HY := Lib.hid hy;have HX := Lib.hid hb.2;have HS := Lib.hid hs;have HW := Lib.hid hW;have hn : decide ((130 : Int) ≤ (n : Int)) = false := by simp; omega
    have HN : Hid (n < 130 ∧ l.length = n) := ⟨by omega, hl⟩;have HF := Lib.hid hy.full;have hlow := byt_low W x;rw [hs] at hlow;have HL := Lib.hid hlow;clear hlow;have hrf : ∀ w, _ := fun w => run_full (A := A) (n := n) (c := c) w hy.room
    rw [H1.out, H2.out];unfold PicOut;clear h hl hk k2 hb hy hlt hW hs;subst ho1 ho2;go_enter Tryz.func148, Tryz.ntmps148
    go_wp2_with (at_builtin; first
      | (rw [HW.out]
         refine wpList_bgrow rfl _ _ rfl (fullAt A n) n n l rfl HF.out (w.heap.size + 1 + 1) [byteI x] rfl HL.out (by have := HN.out.1; omega) ?_;intro v2 w2 u1 u2;obtain ⟨A2, n2, c2, rfl⟩ := byt_slice u1.byt;have u3 := below_then (al_one W (.cells #[.int .u8 (x % 256)] 5)) u2;have O2 := Lib.hid u1;have B2 := Lib.hid u3;have X2 := Lib.hid (HX.out.keep u3);obtain ⟨b3, b4, b5, b6⟩ := X2.out.use;have l3 := X2.out.lt
         clear u1 u2 u3 HY HF hrf))
    have X3 : PBox ((w2.setCell ⟨w.heap.size + 1, 0, none⟩ (.slice A2 n2 c2)).setCell ⟨w.heap.size + 1, 1, none⟩ (.bool true)) (w.heap.size + 1) A2 n2 c2 true := X2.out.put _ _;obtain ⟨r0, r1, _, _⟩ := X3.use;refine bodyPost_ret (v := .tuple #[.agg #[.slice A2 n2 c2, .bool true], .int .i64 0]) ?_ rfl ?_
    · simp [results, Tryz.results148, go_sem, r0, r1]
    · refine ⟨A2, n2, c2, rfl, ?_, ?_⟩
      · exact (O2.out.pset (b := w.heap.size + 1) (by have := HS.out; simp; omega) (.slice A2 n2 c2) (.bool true)).byt
      · exact below_pset (below_then HB.out B2.out) (by omega) _ _
set_option maxRecDepth 100000 in
theorem sign_any (A : Option Addr) (n c : Nat) (o : Bool) (l : List UInt8) (x : Int) (w : World) (h : Byt w (.slice A n c) l) (hm : l.length ≤ 1000) :
    Calls Tryz.prog 149 #[.agg #[.slice A n c, .bool o], .int .i64 x] w (PicOut o (signL o l x) (signC o l x) w) := by
  by_cases h0 : 0 ≤ x
  · have H1 : Hid (signL o l x = l) := by show _ = _; unfold signL; rw [if_neg (by omega)]
    have H2 : Hid (signC o l x = 0) := by show _ = _; unfold signC; rw [if_neg (by omega)]
    have HB := Lib.hid (al_two w (.cells #[.slice A n c, .bool o] 32) (.cells #[.slice A n c, .bool o] 32));have HY := Lib.hid (h.keep HB.out);have hb : PBox _ _ _ _ _ _ ∧ PBox _ _ _ _ _ _ := box_two w (.slice A n c) (.bool o) (.slice A n c) (.bool o) 32 32;obtain ⟨b3, b4, _, _⟩ := hb.2.use;rw [H1.out, H2.out];clear h hb;go_enter Tryz.func149, Tryz.ntmps149;go_wp2;refine bodyPost_ret (v := .tuple #[.agg #[.slice A n c, .bool o], .int .i64 0]) ?_ rfl ?_
    · simp [results, Tryz.results149, go_sem, b3, b4]
    · exact ⟨A, n, c, rfl, HY.out, HB.out⟩
  · have H1 : Hid (signL o l x = holdL o l 45) := by show _ = _; unfold signL; rw [if_pos (by omega)]
    have H2 : Hid (signC o l x = holdC o l) := by show _ = _; unfold signC; rw [if_pos (by omega)]
    have h0' : decide (0 ≤ x) = false := by simp; omega
    obtain ⟨o1, ho1⟩ : ∃ o1 : Obj, .cells #[.slice A n c, .bool o] 32 = o1 := ⟨_, rfl⟩;obtain ⟨o2, ho2⟩ : ∃ o2 : Obj, .cells #[.slice none 0 0, .bool false] 32 = o2 := ⟨_, rfl⟩;obtain ⟨W, hW⟩ : ∃ W, (w.alloc o1).alloc o2 = W := ⟨_, rfl⟩;have k2 := al_two w o1 o2;have hb : PBox ((w.alloc o1).alloc o2) w.heap.size A n c o ∧ PBox ((w.alloc o1).alloc o2) (w.heap.size + 1) none 0 0 false := by rw [← ho1, ← ho2]; exact box_two _ _ _ _ _ _ _
    rw [hW] at k2 hb;have HB := Lib.hid k2;have HX := Lib.hid hb.2;have HW := Lib.hid hW;have HH := Lib.hid (hold_any A n c o l 45 W (h.keep k2) hm);rw [H1.out, H2.out];clear h h0 k2 hb hW;subst ho1 ho2;go_enter Tryz.func149, Tryz.ntmps149;(go_wp2_with fail);rw [HW.out];refine HH.out.mono ?_;rintro e w1 ⟨A2, n2, c2, rfl, hy, bb⟩;have HY := Lib.hid hy;have B2 := Lib.hid bb;have X2 := Lib.hid (HX.out.keep bb);obtain ⟨b3, b4, b5, b6⟩ := X2.out.use;have l3 := X2.out.lt;clear hy bb HH;(go_wp2_with fail);have X3 : PBox ((w1.setCell ⟨w.heap.size + 1, 0, none⟩ (.slice A2 n2 c2)).setCell ⟨w.heap.size + 1, 1, none⟩ (.bool o)) (w.heap.size + 1) A2 n2 c2 o := X2.out.put _ _;obtain ⟨r0, r1, _, _⟩ := X3.use;refine bodyPost_ret (v := .tuple #[.agg #[.slice A2 n2 c2, .bool o], .int .i64 (holdC o l)]) ?_ rfl ?_
    · simp [results, Tryz.results149, go_sem, r0, r1]
    · exact ⟨A2, n2, c2, rfl, byt_pset HY.out X2.out _ _, below_pset (below_then HB.out B2.out) (by omega) _ _⟩
end Go.Proofs.YtlgnijhemfkflaaGreatDoor

namespace Go.Proofs.YtlgnijhemfkflaaGreatDoor
open Go.RowKit
set_option linter.unusedVariables false
set_option linter.unusedSimpArgs false
theorem isW_zero (b : Int) : isW 48 b = baseB b := by
  unfold isW baseB wN;rw [decide_eq_decide];simp;omega
set_option maxRecDepth 100000 in
theorem pbase_any (b : Int) (w : World) : Calls Tryz.prog 285 #[.int .i64 b] w fun e w' => e = .returned (.bool (baseB b)) ∧ Below w.heap.size w w' := by
  have HW := Lib.hid (worth_any 48 b w (by omega));rw [isW_zero] at HW;obtain ⟨x, hx⟩ : ∃ x, worthF 48 b = x := ⟨_, rfl⟩;obtain ⟨y, hy⟩ : ∃ y, baseB b = y := ⟨_, rfl⟩;rw [hx, hy] at HW;rw [hy];clear hx hy;go_enter Tryz.func285, Tryz.ntmps285;(go_wp2_with fail);refine HW.out.mono ?_;rintro e w1 ⟨rfl, bb⟩;go_wp2;go_ret;exact ⟨rfl, bb⟩
set_option maxHeartbeats 400000 in
theorem onward_any (b : Int) (w : World) :
    Calls Tryz.prog 286 #[.int .i64 b] w fun e w' => ∃ p : Addr, e = .returned (.func (.func 301) #[] #[.pointer (some p)]) ∧ w'.cell? p = some (.int .i64 b) ∧ p.block < w'.heap.size ∧ Below w.heap.size w w' := by
  have hmf : ∀ (fn : Fn) (first cap : Array Value) (w : World), (Instr.makeFunc fn first cap).run Tryz.prog w = .ok (.func fn first cap) w := fun _ _ _ _ => rfl
  go_enter Tryz.func286, Tryz.ntmps286;go_wp2;go_ret;exact ⟨_, rfl, by simp, by simp, al_one _ _⟩
theorem cell_keep {w w' : World} {p : Addr} {v : Value} (h : w.cell? p = some v) (hp : p.block < w.heap.size) (b : Below w.heap.size w w') : w'.cell? p = some v := by
  rw [← h];exact Below.cell b hp
set_option maxRecDepth 100000 in
theorem next_any (lo hi : Int) (k : Nat) (p : Addr) (w : World) (h2 : 2 ≤ k) (h36 : k ≤ 36) (hp : w.cell? p = some (.int .i64 (k : Int))) (hb : p.block < w.heap.size) :
    Calls Tryz.prog 301 #[.int .i64 lo, .int .i64 hi, .pointer (some p)] w fun e w' => e = .returned (.tuple #[.int .i64 (lowI (pairN lo hi / k)), .int .i64 (highI (pairN lo hi / k)), .int .i64 ((pairN lo hi % k : Nat) : Int)]) ∧ Below w.heap.size w w' := by
  obtain ⟨f1, f2, f3, f4⟩ := dig_facts lo hi k h2 h36;obtain ⟨g1, g2, g3⟩ := udiv_facts hi (un hi) k rfl h2 h36;have hH := un_lt hi;obtain ⟨H, eH⟩ : ∃ H, un hi = H := ⟨_, rfl⟩;rw [eH] at f1 f2 f3 f4 g1 g2 hH;have f5 : ((H / k : Nat) : Int) = highI (pairN lo hi / k) := by
    rw [← f4];have h5 : H / k ≤ H / 2 := Nat.div_le_div_left h2 (by omega);obtain ⟨t, et⟩ : ∃ t, H / k = t := ⟨_, rfl⟩;rw [et] at h5 ⊢;exact (w64_id (by omega) (by omega)).symm
  have h1 : Hid (∀ w, Calls Tryz.prog 92 #[.int .i64 hi, .int .i64 0, .int .i64 (k : Int)] w fun e w' => e = .returned (.tuple #[.int .i64 (highI (pairN lo hi / k)), .int .i64 ((H % k : Nat) : Int), .int .i64 0]) ∧ Below w.heap.size w w') := by
    show ∀ _, _;intro w;have := udiv_any hi 0 (k : Int) w (by unfold cellR; omega);rw [g1, g2, g3, f5] at this;exact this
  have h3 : Hid (∀ w, Calls Tryz.prog 92 #[.int .i64 lo, .int .i64 ((H % k : Nat) : Int), .int .i64 (k : Int)] w fun e w' => e = .returned (.tuple #[.int .i64 (lowI (pairN lo hi / k)), .int .i64 ((pairN lo hi % k : Nat) : Int), .int .i64 0]) ∧ Below w.heap.size w w') := by
    show ∀ _, _;intro w;have := udiv_any lo ((H % k : Nat) : Int) (k : Int) w (by unfold cellR; omega);rw [f1, f2, f3] at this;exact this
  obtain ⟨a1, e1⟩ : ∃ a, highI (pairN lo hi / k) = a := ⟨_, rfl⟩;obtain ⟨a2, e2⟩ : ∃ a, ((H % k : Nat) : Int) = a := ⟨_, rfl⟩;obtain ⟨a3, e3⟩ : ∃ a, lowI (pairN lo hi / k) = a := ⟨_, rfl⟩;obtain ⟨a4, e4⟩ : ∃ a, ((pairN lo hi % k : Nat) : Int) = a := ⟨_, rfl⟩;obtain ⟨K, e5⟩ : ∃ K : Int, (k : Int) = K := ⟨_, rfl⟩;rw [e1, e2, e5] at h1;rw [e2, e3, e4, e5] at h3;rw [e1, e3, e4];rw [e5] at hp;clear f1 f2 f3 f4 f5 g1 g2 g3 hH eH e1 e2 e3 e4 e5 h2 h36;go_enter Tryz.func301, Tryz.ntmps301;(go_wp2_with fail);refine (h1.out _).mono ?_;rintro e w1 ⟨rfl, b1⟩;have hp1 := cell_keep hp hb b1;(go_wp2_with fail);refine (h3.out _).mono ?_;rintro e w2 ⟨rfl, b2⟩;go_wp2
  go_ret3
  exact ⟨rfl, below_then b1 b2⟩
set_option maxRecDepth 100000 in
set_option maxHeartbeats 4000000 in
theorem digit_same (n : Int) (w : World) :
    Calls Tryz.prog 238 #[.int .i64 n] w fun e w' => e = .returned (.int .u8 (digF n)) ∧ w = w' := by
  by_cases h0 : 0 ≤ n
  · by_cases h9 : n < 10
    · have H : Hid (digF n = 48 + n) := by
        show _ = _;unfold digF digN;rw [if_pos h0, if_pos (by omega)];omega
      go_enter Tryz.func238, Tryz.ntmps238;go_wp2;go_ret;exact ⟨ret_int H.out.symm, rfl⟩
    · have h9' : decide (n < 10) = false := by simp; omega
      have h10 : 10 ≤ n := by omega
      by_cases h35 : n < 36
      · have H : Hid (digF n = 65 + n - 10) := by
          show _ = _;unfold digF digN;rw [if_pos h0, if_neg (by omega), if_pos (by omega)];omega
        clear h9;go_enter Tryz.func238, Tryz.ntmps238;go_wp2;go_ret;exact ⟨ret_int H.out.symm, rfl⟩
      · have h35' : decide (n < 36) = false := by simp; omega
        have H : Hid (digF n = 63) := by
          show _ = _;unfold digF digN;rw [if_pos h0, if_neg (by omega), if_neg (by omega)];rfl
        clear h9 h35;go_enter Tryz.func238, Tryz.ntmps238;go_wp2;go_ret;exact ⟨ret_int H.out.symm, rfl⟩
  · have h0' : decide (0 ≤ n) = false := by simp; omega
    have h10' : decide (10 ≤ n) = false := by simp; omega
    have H : Hid (digF n = 63) := by
      show _ = _;unfold digF;rw [if_neg h0]
    clear h0;go_enter Tryz.func238, Tryz.ntmps238;go_wp2;go_ret;exact ⟨ret_int H.out.symm, rfl⟩
set_option maxRecDepth 100000 in
theorem dig_fail (A : Option Addr) (n c : Nat) (o : Bool) (l : List UInt8) (lo hi b : Int) (w : World) (h : Byt w (.slice A n c) l) (hb : baseB b = false) :
    Calls Tryz.prog 243 #[.agg #[.slice A n c, .bool o], .int .i64 lo, .int .i64 hi, .int .i64 b] w (DigOut o l lo hi (-24) w) := by
  obtain ⟨o1, ho1⟩ : ∃ o1 : Obj, .cells #[.slice A n c, .bool o] 32 = o1 := ⟨_, rfl⟩;obtain ⟨o2, ho2⟩ : ∃ o2 : Obj, .cells #[.slice none 0 0, .bool false] 32 = o2 := ⟨_, rfl⟩;obtain ⟨W, hW⟩ : ∃ W, (w.alloc o1).alloc o2 = W := ⟨_, rfl⟩;have kk := al_two w o1 o2;have hx : PBox ((w.alloc o1).alloc o2) w.heap.size A n c o ∧ PBox ((w.alloc o1).alloc o2) (w.heap.size + 1) none 0 0 false := by rw [← ho1, ← ho2]; exact box_two _ _ _ _ _ _ _
  rw [hW] at kk hx;have HB := Lib.hid kk;have HX := Lib.hid hx.2;have HP := Lib.hid hx.1;have HW := Lib.hid hW;have HY := Lib.hid (h.keep kk);have HQ := Lib.hid (pbase_any b W);rw [hb] at HQ;clear h kk hx hW hb;subst ho1 ho2;go_enter Tryz.func243, Tryz.ntmps243;(go_wp2_with fail);rw [HW.out];refine HQ.out.mono ?_;rintro e w1 ⟨rfl, b1⟩;have XP := Lib.hid (Box.keep HP.out b1);have XZ := Lib.hid (Box.keep HX.out b1);obtain ⟨p0, p1, _, _⟩ := XP.out.use;obtain ⟨z0, z1, z2, z3⟩ := XZ.out.use;have lz := XZ.out.lt;have HBB := Lib.hid (below_then HB.out b1);have HYY := Lib.hid (HY.out.keep b1);clear b1 HQ;(go_wp2_with fail);obtain ⟨r0, r1, _, _⟩ := (PBox.put XZ.out (.slice A n c) (.bool o)).use;refine bodyPost_ret (v := .tuple #[.agg #[.slice A n c, .bool o], .int .i64 lo, .int .i64 hi, .int .i64 (-24)]) ?_ rfl ?_
  · simp [results, Tryz.results243, go_sem, r0, r1]
  · exact ⟨A, n, c, rfl, byt_pset HYY.out XZ.out _ _, below_pset HBB.out (by omega) _ _⟩
set_option maxRecDepth 100000 in
set_option maxHeartbeats 4000000 in
theorem dig_any (A : Option Addr) (n c : Nat) (o : Bool) (l : List UInt8) (lo hi b : Int) (w : World) (h : Byt w (.slice A n c) l) (hm : l.length ≤ 1000) (hlo : cellR lo) (hhi : cellR hi) (hb9 : cellR b) :
    Calls Tryz.prog 243 #[.agg #[.slice A n c, .bool o], .int .i64 lo, .int .i64 hi, .int .i64 b] w (DigOut o (digL o l lo hi b) (digLo o l lo hi b) (digHi o l lo hi b) (digC o l b) w) := by
  cases hb : baseB b with
  | false =>
    obtain ⟨H1, H2, H3, H4⟩ := dig_no (o := o) (l := l) hb lo hi;rw [H1, H2, H3, H4];exact dig_fail A n c o l lo hi b w h hb
  | true =>
    obtain ⟨b2, b36⟩ := (baseB_iff b).1 hb;obtain ⟨k, rfl⟩ := Int.eq_ofNat_of_zero_le (by omega : 0 ≤ b);have hk2 : 2 ≤ k := by omega
    have hk36 : k ≤ 36 := by omega
    have HN : Hid (∀ (p : Addr) (w : World), w.cell? p = some (.int .i64 (k : Int)) → p.block < w.heap.size → Calls Tryz.prog 301 #[.int .i64 lo, .int .i64 hi, .pointer (some p)] w fun e w' => e = .returned (.tuple #[.int .i64 (lowI (pairN lo hi / k)), .int .i64 (highI (pairN lo hi / k)), .int .i64 ((pairN lo hi % k : Nat) : Int)]) ∧ Below w.heap.size w w') := Lib.hid fun p w h h' => next_any lo hi k p w hk2 hk36 h h'
    have HD := Lib.hid (byte_dig (pairN lo hi) k);have hdu : digU lo hi (k : Int) = UInt8.ofNat (digN (pairN lo hi % k)) := rfl;obtain ⟨x, ex⟩ : ∃ x, UInt8.ofNat (digN (pairN lo hi % k)) = x := ⟨_, rfl⟩;rw [ex] at HD hdu;obtain ⟨m, em⟩ : ∃ m, ((pairN lo hi % k : Nat) : Int) = m := ⟨_, rfl⟩;rw [em] at HD HN;obtain ⟨Lo, eLo⟩ : ∃ y, lowI (pairN lo hi / k) = y := ⟨_, rfl⟩;obtain ⟨T, eT⟩ : ∃ T, highI (pairN lo hi / k) = T := ⟨_, rfl⟩;rw [eLo, eT] at HN;have x64 : IntKind.i64.wrap (x.toNat : Int) = (x.toNat : Int) := IntWalk.i64_in _ ⟨by omega, by have := x.toNat_lt; omega⟩;obtain ⟨o1, ho1⟩ : ∃ o1 : Obj, .cells #[.slice A n c, .bool o] 32 = o1 := ⟨_, rfl⟩;obtain ⟨o2, ho2⟩ : ∃ o2 : Obj, .cells #[.slice none 0 0, .bool false] 32 = o2 := ⟨_, rfl⟩;obtain ⟨W, hW⟩ : ∃ W, (w.alloc o1).alloc o2 = W := ⟨_, rfl⟩;have kk := al_two w o1 o2;have hx : PBox ((w.alloc o1).alloc o2) w.heap.size A n c o ∧ PBox ((w.alloc o1).alloc o2) (w.heap.size + 1) none 0 0 false := by rw [← ho1, ← ho2]; exact box_two _ _ _ _ _ _ _
    rw [hW] at kk hx;have HB := Lib.hid kk;have HX := Lib.hid hx.2;have HP := Lib.hid hx.1;have HW := Lib.hid hW;have HY := Lib.hid (h.keep kk);have HQ := Lib.hid (pbase_any (k : Int) W);rw [hb] at HQ;obtain ⟨K, eK⟩ : ∃ K : Int, (k : Int) = K := ⟨_, rfl⟩;cases hk : pOpen o l with
    | false =>
      obtain ⟨H1, H2, H3, H4⟩ := dig_full (o := o) (l := l) hb hk lo hi;rw [H1, H2, H3, H4];obtain ⟨HHL, HHC0⟩ : holdL o l (x.toNat : Int) = l ∧ holdC o l = -17 := by unfold holdL holdC; rw [if_neg (by simp [hk]), if_neg (by simp [hk])]; exact ⟨rfl, rfl⟩
      have HHC : Hid (∀ a, Byt a (.slice A n c) l → Calls Tryz.prog 148 #[.agg #[.slice A n c, .bool o], .int .i64 (x.toNat : Int)] a (PicOut o l (-17) a)) := by
        show ∀ _, _;intro a k;have := hold_any A n c o l (x.toNat : Int) a k hm;rw [HHL, HHC0] at this;exact this
      rw [eK] at HN HQ;rw [eK];clear h H1 H2 H3 H4 hW hx kk ex hb em eLo eT eK HHC0 hdu b2 b36 hk2 hk36;subst ho1 ho2;clear HHL;go_enter Tryz.func243, Tryz.ntmps243;(go_wp2_with fail);rw [HW.out];refine HQ.out.mono ?_;rintro e w1 ⟨rfl, b1⟩;(go_wp2_with fail);refine (onward_any _ _).mono ?_;rintro e w2 ⟨p, rfl, hp, hpb, b2⟩;have b12 := below_then b1 b2;clear b1 b2;(go_wp2_with fail);refine (HN.out p _ hp hpb).mono ?_;rintro e V ⟨rfl, b3⟩;have b13 := below_then b12 b3;have HVB := Lib.hid (below_then HB.out b13);have HVX := Lib.hid (Box.keep HX.out b13);have HVP := Lib.hid (Box.keep HP.out b13);have HVY := Lib.hid (HY.out.keep b13);have SB : Hid (∀ a, Below V.heap.size V a → (a.cell? ⟨w.heap.size, 0, none⟩ = some (.slice A n c) ∧ a.cell? ⟨w.heap.size, 1, none⟩ = some (.bool o) ∧ Below V.heap.size V a)) := Lib.hid fun a h => ⟨(Box.use (Box.keep HVP.out h)).1, (Box.use (Box.keep HVP.out h)).2.1, h⟩
      have HH : Hid (∀ a, Below V.heap.size V a → Calls Tryz.prog 148 #[.agg #[.slice A n c, .bool o], .int .i64 (x.toNat : Int)] a fun e w' => ∃ A' n' c', e = .returned (.tuple #[.agg #[.slice A' n' c', .bool o], .int .i64 (-17)]) ∧ Byt w' (.slice A' n' c') l ∧ Below a.heap.size a w') := by
        show ∀ _, _;intro a k;exact HHC.out a (HVY.out.keep k)
      obtain ⟨s0, s1, s2⟩ := SB.out V (Below.refl _ _);clear b12 b3 hp hpb b13 HQ HHC s2;(go_wp2_with fail);refine wp_region_noPanic ?_
      go_region_held3 (fun a => a.cell? ⟨w.heap.size, 0, none⟩ = some (.slice A n c) ∧ a.cell? ⟨w.heap.size, 1, none⟩ = some (.bool o) ∧ Below V.heap.size V a) (first | assumption | exact SB.out _ (since_d _) | exact SB.out _ (since_ad _ _) | exact SB.out _ (since_aa s4.2.2 _) | exact SB.out _ (below_pset s4.2.2 (Nat.le_refl _) _ _) | exact SB.out _ (below_pset (since_aa s4.2.2 _) s4.2.2.size _ _))
        (first
          | (go_at_call 238; ((with_reducible refine (digit_same _ _).mono ?_); rw [HD.out]; rintro ed wd ⟨rfl, rfl⟩))
          | (go_at_call 148; ((with_reducible refine (HH.out _ (by assumption : _ ∧ _ ∧ Below V.heap.size V _).2.2).mono ?_); rintro e4 w4 ⟨A4, n4, c4, rfl, hy4, b4⟩; have s4 := SB.out _ (below_then (by assumption : _ ∧ _ ∧ Below V.heap.size V _).2.2 b4); have Q3 := Lib.hid (Box.keep_h (pbox_new V none 0 0 false) b4 rfl); obtain ⟨q2, q3, q4, q5⟩ := Q3.out.use))
          | (go_at_call 148; ((with_reducible refine (HH.out _ (by assumption : _ ∧ _ ∧ Below V.heap.size V _).2.2).mono ?_); rintro e4 w4 ⟨A4, n4, c4, rfl, hy4, b4⟩; have s4 := SB.out _ (below_then (by assumption : _ ∧ _ ∧ Below V.heap.size V _).2.2 b4))))
      all_goals (refine NoPanic.normal ?_)
      all_goals (first
        | (obtain ⟨wf, hwf, zf, bf⟩ := ppack (W := V) (o' := o) Q3.out hy4 s4.2.2 (Nat.le_refl _); rw [hwf]; clear hwf)
        | (obtain ⟨wf, hwf, zf, bf⟩ := papack (W := V) (o := o) hy4 s4.2.2; rw [hwf]; clear hwf))
      all_goals (have XP := Lib.hid (Box.keep HVP.out bf); have XZ := Lib.hid (Box.keep HVX.out bf); obtain ⟨p0, p1, _, _⟩ := XP.out.use; obtain ⟨z0, z1, z2, z3⟩ := XZ.out.use; have lz := XZ.out.lt; have HBB := Lib.hid (below_then HVB.out bf); have HYY := Lib.hid (HVY.out.keep bf); obtain ⟨x0, x1⟩ := zf.out.use; clear bf)
      all_goals go_wp2_with fail
      all_goals (obtain ⟨r0, r1, _, _⟩ := (PBox.put XZ.out (.slice A n c) (.bool o)).use)
      all_goals refine bodyPost_ret (v := .tuple #[.agg #[.slice A n c, .bool o], .int .i64 lo, .int .i64 hi, .int .i64 (-17)]) ?_ rfl ?_
      all_goals first
        | (simp [results, Tryz.results243, go_sem, r0, r1]; done)
        | exact ⟨A, n, c, rfl, byt_pset HYY.out XZ.out _ _, below_pset HBB.out (by omega) _ _⟩
    | true =>
      obtain ⟨H1, H2, H3, H4⟩ := dig_ok (o := o) (l := l) hb hk lo hi;rw [Int.toNat_natCast] at H2 H3;rw [hdu] at H1;rw [eLo] at H2;rw [eT] at H3;rw [H1, H2, H3, H4];obtain ⟨HHL, HHC0⟩ : holdL o l (x.toNat : Int) = l ++ [x] ∧ holdC o l = 0 := by unfold holdL holdC; rw [if_pos hk, if_pos hk, byteI_u8]; exact ⟨rfl, rfl⟩
      have HHC : Hid (∀ a, Byt a (.slice A n c) l → Calls Tryz.prog 148 #[.agg #[.slice A n c, .bool o], .int .i64 (x.toNat : Int)] a (PicOut o (l ++ [x]) 0 a)) := by
        show ∀ _, _;intro a k;have := hold_any A n c o l (x.toNat : Int) a k hm;rw [HHL, HHC0] at this;exact this
      rw [eK] at HN HQ;rw [eK];clear h H1 H2 H3 H4 hW hx kk ex hb em eLo eT eK HHC0 hdu b2 b36 hk2 hk36;subst ho1 ho2;clear HHL;go_enter Tryz.func243, Tryz.ntmps243;(go_wp2_with fail);rw [HW.out];refine HQ.out.mono ?_;rintro e w1 ⟨rfl, b1⟩;(go_wp2_with fail);refine (onward_any _ _).mono ?_;rintro e w2 ⟨p, rfl, hp, hpb, b2⟩;have b12 := below_then b1 b2;clear b1 b2;(go_wp2_with fail);refine (HN.out p _ hp hpb).mono ?_;rintro e V ⟨rfl, b3⟩;have b13 := below_then b12 b3;have HVB := Lib.hid (below_then HB.out b13);have HVX := Lib.hid (Box.keep HX.out b13);have HVP := Lib.hid (Box.keep HP.out b13);have HVY := Lib.hid (HY.out.keep b13);have SB : Hid (∀ a, Below V.heap.size V a → (a.cell? ⟨w.heap.size, 0, none⟩ = some (.slice A n c) ∧ a.cell? ⟨w.heap.size, 1, none⟩ = some (.bool o) ∧ Below V.heap.size V a)) := Lib.hid fun a h => ⟨(Box.use (Box.keep HVP.out h)).1, (Box.use (Box.keep HVP.out h)).2.1, h⟩
      have HH : Hid (∀ a, Below V.heap.size V a → Calls Tryz.prog 148 #[.agg #[.slice A n c, .bool o], .int .i64 (x.toNat : Int)] a fun e w' => ∃ A' n' c', e = .returned (.tuple #[.agg #[.slice A' n' c', .bool o], .int .i64 (0)]) ∧ Byt w' (.slice A' n' c') (l ++ [x]) ∧ Below a.heap.size a w') := by
        show ∀ _, _;intro a k;exact HHC.out a (HVY.out.keep k)
      obtain ⟨s0, s1, s2⟩ := SB.out V (Below.refl _ _);clear b12 b3 hp hpb b13 HQ HHC s2;(go_wp2_with fail);refine wp_region_noPanic ?_
      go_region_held3 (fun a => a.cell? ⟨w.heap.size, 0, none⟩ = some (.slice A n c) ∧ a.cell? ⟨w.heap.size, 1, none⟩ = some (.bool o) ∧ Below V.heap.size V a) (first | assumption | exact SB.out _ (since_d _) | exact SB.out _ (since_ad _ _) | exact SB.out _ (since_aa s4.2.2 _) | exact SB.out _ (below_pset s4.2.2 (Nat.le_refl _) _ _) | exact SB.out _ (below_pset (since_aa s4.2.2 _) s4.2.2.size _ _))
        (first
          | (go_at_call 238; ((with_reducible refine (digit_same _ _).mono ?_); rw [HD.out]; rintro ed wd ⟨rfl, rfl⟩))
          | (go_at_call 148; ((with_reducible refine (HH.out _ (by assumption : _ ∧ _ ∧ Below V.heap.size V _).2.2).mono ?_); rintro e4 w4 ⟨A4, n4, c4, rfl, hy4, b4⟩; have s4 := SB.out _ (below_then (by assumption : _ ∧ _ ∧ Below V.heap.size V _).2.2 b4); have Q3 := Lib.hid (Box.keep_h (pbox_new V none 0 0 false) b4 rfl); obtain ⟨q2, q3, q4, q5⟩ := Q3.out.use))
          | (go_at_call 148; ((with_reducible refine (HH.out _ (by assumption : _ ∧ _ ∧ Below V.heap.size V _).2.2).mono ?_); rintro e4 w4 ⟨A4, n4, c4, rfl, hy4, b4⟩; have s4 := SB.out _ (below_then (by assumption : _ ∧ _ ∧ Below V.heap.size V _).2.2 b4))))
      all_goals (refine NoPanic.normal ?_)
      all_goals (first
        | (obtain ⟨wf, hwf, zf, bf⟩ := ppack (W := V) (o' := o) Q3.out hy4 s4.2.2 (Nat.le_refl _); rw [hwf]; clear hwf)
        | (obtain ⟨wf, hwf, zf, bf⟩ := papack (W := V) (o := o) hy4 s4.2.2; rw [hwf]; clear hwf))
      all_goals (have XP := Lib.hid (Box.keep HVP.out bf); have XZ := Lib.hid (Box.keep HVX.out bf); obtain ⟨p0, p1, _, _⟩ := XP.out.use; obtain ⟨z0, z1, z2, z3⟩ := XZ.out.use; have lz := XZ.out.lt; have HBB := Lib.hid (below_then HVB.out bf); have HYY := Lib.hid (zf.out.byt); obtain ⟨x0, x1⟩ := zf.out.use; clear bf)
      all_goals go_wp2_with fail
      all_goals (obtain ⟨r0, r1, _, _⟩ := (PBox.put XZ.out (.slice A4 n4 c4) (.bool o)).use)
      all_goals refine bodyPost_ret (v := .tuple #[.agg #[.slice A4 n4 c4, .bool o], .int .i64 Lo, .int .i64 T, .int .i64 0]) ?_ rfl ?_
      all_goals first
        | (simp [results, Tryz.results243, go_sem, r0, r1]; done)
        | exact ⟨A4, n4, c4, rfl, byt_pset HYY.out XZ.out _ _, below_pset HBB.out (by omega) _ _⟩
end Go.Proofs.YtlgnijhemfkflaaGreatDoor
