/- Part 2. -/
import Derived.Test.YtlgnijhemfkflaaGreatDoorSetPrimDividesZero
import Derived.Test.YtlgnijhemfkflaaGreatDoorSetPrimDividesA
import Derived.Laws.OwnMore
import Derived.OwnWalk
import Derived.Lib.SmallJoins
set_option linter.unusedVariables false
set_option linter.unusedSimpArgs false

namespace Go.Proofs.YtlgnijhemfkflaaGreatDoor
open Go.RowKit
set_option linter.unusedVariables false
set_option linter.unusedSimpArgs false
theorem below_then {w w1 w2 : World} (h : Below w.heap.size w w1) (k : Below w1.heap.size w1 w2) : Below w.heap.size w w2 := h.trans (k.mono h.size)
def u8s (l : List UInt8) : List Value := l.map fun b => .int .u8 (b.toNat : Int)
theorem u8s_len (l : List UInt8) : (u8s l).length = l.length := by simp [u8s]
theorem u8s_lay (l : List UInt8) (o : Nat) (c : List UInt8) : u8s (splice l o c) = splice (u8s l) o (u8s c) := splice_map _ l o c
theorem u8s_one (l : List UInt8) : ∀ v ∈ u8s l, v.oneCell' = true := by
  intro v hv;unfold u8s at hv;rw [List.mem_map] at hv;obtain ⟨b, _, rfl⟩ := hv;rfl
theorem u8s_at {l : List UInt8} {j : Nat} (h : j < l.length) : (u8s l)[j]? = some (.int .u8 ((l[j]).toNat : Int)) := by simp [u8s, h]
theorem u8s_app (a b : List UInt8) : u8s (a ++ b) = u8s a ++ u8s b := by simp [u8s]
def Lies (w : World) (A : Option Addr) (xs : List Value) : Prop :=
  xs = [] ∨ ∃ g o, A = some ⟨g, o, none⟩ ∧ g < w.heap.size ∧ ∀ j v, xs[j]? = some v → w.cell? ⟨g, o + j, none⟩ = some v
theorem add_at (g o j : Nat) : (⟨g, o, none⟩ : Addr).add j = ⟨g, o + j, none⟩ := by unfold Addr.add; split <;> simp_all
theorem Lies.keep {w w' : World} {A : Option Addr} {xs : List Value} (h : Lies w A xs) (b : Below w.heap.size w w') : Lies w' A xs := by
  rcases h with h | ⟨g, o, hA, hg, hc⟩
  · exact .inl h
  · exact .inr ⟨g, o, hA, Nat.lt_of_lt_of_le hg b.size, fun j v hv => (b.cell (p := ⟨g, o + j, none⟩) hg).trans (hc j v hv)⟩
theorem Lies.part {w : World} {g o : Nat} {xs : List Value} (h : Lies w (some ⟨g, o, none⟩) xs) (a n : Nat) : Lies w (some ⟨g, o + a, none⟩) ((xs.drop a).take n) := by
  rcases h with rfl | ⟨g', o', hA, hg, hc⟩
  · exact .inl (by simp)
  · injection hA with hA
    injection hA with e1 e2
    subst e1 e2;refine .inr ⟨g, o + a, rfl, hg, fun j v hv => ?_⟩;rw [List.getElem?_take] at hv
    split at hv
    · rw [List.getElem?_drop] at hv
      rw [Nat.add_assoc];exact hc _ _ hv
    · cases hv
theorem lies_block {w : World} {g : Nat} {xs : List Value} {t : TypeId} (h : w.heap[g]? = some (.cells xs.toArray t (0, 0))) : Lies w (some ⟨g, 0, none⟩) xs := by
  refine .inr ⟨g, 0, rfl, (Array.getElem?_eq_some_iff.1 h).1, fun j v hv => ?_⟩;rw [Nat.zero_add];simp [World.cell?, h, hv]
def Byt (w : World) (v : Value) (l : List UInt8) : Prop := ∃ A c, v = .slice A l.length c ∧ l.length ≤ c ∧ c ≤ maxLen ∧ Lies w A (u8s l)
theorem Byt.keep {w w' : World} {v : Value} {l : List UInt8} (h : Byt w v l) (b : Below w.heap.size w w') : Byt w' v l := by
  obtain ⟨A, c, h1, h2, h3, h4⟩ := h;exact ⟨A, c, h1, h2, h3, h4.keep b⟩
theorem byt_block {w : World} {g : Nat} {l : List UInt8} {t : TypeId} (h : w.heap[g]? = some (.cells (u8s l).toArray t (0, 0))) (hl : l.length ≤ 65536) : Byt w (.slice (some ⟨g, 0, none⟩) l.length l.length) l :=
  ⟨_, _, rfl, Nat.le_refl _, by unfold maxLen; omega, lies_block h⟩
theorem byt_nil (w : World) : Byt w (.slice none 0 0) [] := ⟨none, 0, rfl, Nat.le_refl _, Nat.zero_le _, .inl rfl⟩
abbrev Qt := Int × Value
def pc (qs : List Qt) : List Value := qs.flatMap fun q => [.int .i64 q.1, q.2]
theorem pc_cons (q : Qt) (qs : List Qt) : pc (q :: qs) = .int .i64 q.1 :: q.2 :: pc qs := rfl
theorem pc_app (a b : List Qt) : pc (a ++ b) = pc a ++ pc b := by simp [pc]
theorem pc_len (qs : List Qt) : (pc qs).length = 2 * qs.length := by
  induction qs with
  | nil => rfl
  | cons q qs ih => rw [pc_cons]; simp [ih]; omega
theorem pc_at (qs : List Qt) : ∀ i q, qs[i]? = some q → (pc qs)[2 * i]? = some (.int .i64 q.1) ∧ (pc qs)[2 * i + 1]? = some q.2 := by
  induction qs with
  | nil => intro i q h; simp at h
  | cons x qs ih =>
    intro i q h;rw [pc_cons];cases i with
    | zero => simp at h; subst h; exact ⟨rfl, rfl⟩
    | succ i =>
      simp at h;have := ih i q h;rw [show 2 * (i + 1) = 2 * i + 1 + 1 by omega];simpa using this
def Tells (w : World) (qs : List Qt) (ps : List Pt) : Prop := qs.length = ps.length ∧ ∀ (i : Nat) (q : Qt) (p : Pt), qs[i]? = some q → ps[i]? = some p → q.1 = p.1 ∧ Byt w q.2 p.2
theorem Tells.keep {w w' : World} {qs : List Qt} {ps : List Pt} (h : Tells w qs ps) (b : Below w.heap.size w w') : Tells w' qs ps :=
  ⟨h.1, fun i q p hq hp => ⟨(h.2 i q p hq hp).1, (h.2 i q p hq hp).2.keep b⟩⟩
theorem Tells.at_ {w : World} {qs : List Qt} {ps : List Pt} (h : Tells w qs ps) {i : Nat} {p : Pt} (hp : ps[i]? = some p) : ∃ v, qs[i]? = some (p.1, v) ∧ Byt w v p.2 := by
  have hi : i < qs.length := by rw [h.1]; exact (List.getElem?_eq_some_iff.1 hp).1
  have hq : qs[i]? = some qs[i] := List.getElem?_eq_getElem hi;obtain ⟨e, hb⟩ := h.2 i _ p hq hp;refine ⟨qs[i].2, ?_, hb⟩;rw [hq, ← e]
theorem Tells.snoc {w : World} {qs : List Qt} {ps : List Pt} (h : Tells w qs ps) {p : Pt} {v : Value} (hv : Byt w v p.2) : Tells w (qs ++ [(p.1, v)]) (ps ++ [p]) := by
  refine ⟨by simp [h.1], fun i q r hq hr => ?_⟩
  by_cases hi : i < qs.length
  · rw [List.getElem?_append_left hi] at hq
    rw [List.getElem?_append_left (by rw [← h.1]; exact hi)] at hr;exact h.2 i q r hq hr
  · have hi' : i = qs.length := by have := (List.getElem?_eq_some_iff.1 hq).1; simp at this; omega
    subst hi';rw [List.getElem?_append_right (Nat.le_refl _)] at hq;rw [h.1, List.getElem?_append_right (Nat.le_refl _)] at hr;simp at hq hr;subst hq hr;exact ⟨rfl, hv⟩
theorem Tells.take {w : World} {qs : List Qt} {ps : List Pt} (h : Tells w qs ps) (k : Nat) : Tells w (qs.take k) (ps.take k) := by
  refine ⟨by simp [h.1], fun i q r hq hr => ?_⟩;rw [List.getElem?_take] at hq hr
  split at hq
  · rename_i hk
    rw [if_pos hk] at hr;exact h.2 i q r hq hr
  · cases hq
theorem Tells.drop {w : World} {qs : List Qt} {ps : List Pt} (h : Tells w qs ps) (k : Nat) : Tells w (qs.drop k) (ps.drop k) := by
  refine ⟨by simp [h.1], fun i q r hq hr => ?_⟩;rw [List.getElem?_drop] at hq hr;exact h.2 _ q r hq hr
theorem tells_nil (w : World) : Tells w [] [] := ⟨rfl, fun i q p h => by simp at h⟩
def Pats (w : World) (v : Value) (ps : List Pt) : Prop := ∃ A c qs, v = .slice A ps.length c ∧ ps.length ≤ c ∧ c ≤ maxLen ∧ Lies w A (pc qs) ∧ Tells w qs ps
theorem Pats.keep {w w' : World} {v : Value} {ps : List Pt} (h : Pats w v ps) (b : Below w.heap.size w w') : Pats w' v ps := by
  obtain ⟨A, c, qs, h1, h2, h3, h4, h5⟩ := h;exact ⟨A, c, qs, h1, h2, h3, h4.keep b, h5.keep b⟩
theorem pats_nil (w : World) : Pats w (.slice none 0 0) [] := ⟨none, 0, [], rfl, Nat.le_refl _, Nat.zero_le _, .inl rfl, tells_nil w⟩
def IsMem (w : World) (v : Value) (m : PM) : Prop := ∃ b o, v = .agg #[b, o] ∧ Byt w b m.1 ∧ Pats w o m.2
theorem IsMem.keep {w w' : World} {v : Value} {m : PM} (h : IsMem w v m) (b : Below w.heap.size w w') : IsMem w' v m := by
  obtain ⟨x, y, h1, h2, h3⟩ := h;exact ⟨x, y, h1, h2.keep b, h3.keep b⟩
theorem IsMem.parts {w : World} {v : Value} {m : PM} (h : IsMem w v m) : ∃ A c P d, v = .agg #[.slice A m.1.length c, .slice P m.2.length d] ∧ Byt w (.slice A m.1.length c) m.1 ∧ Pats w (.slice P m.2.length d) m.2 := by
  obtain ⟨x, y, rfl, hb, hp⟩ := h;have hb' := hb;have hp' := hp;obtain ⟨A, c, rfl, _⟩ := hb;obtain ⟨P, d, qs, rfl, _⟩ := hp;exact ⟨A, c, P, d, rfl, hb', hp'⟩
structure RowSet (g : Nat) (w w' : World) : Prop where
  os : w'.os = w.os
  tape : w'.tape = w.tape
  output : w'.output = w.output
  size : w'.heap.size = w.heap.size
  other : ∀ k, k ≠ g → w'.heap[k]? = w.heap[k]?
theorem rowSet_setRow (g : Nat) (w : World) (cs : Array Value) : RowSet g w (w.setRow g cs) := ⟨rfl, rfl, rfl, by simp [World.setRow], fun k hk => setRow_other w g k cs hk⟩
theorem RowSet.refl (g : Nat) (w : World) : RowSet g w w := ⟨rfl, rfl, rfl, rfl, fun _ _ => rfl⟩
theorem RowSet.trans {g : Nat} {a b c : World} (h : RowSet g a b) (k : RowSet g b c) : RowSet g a c :=
  ⟨k.os.trans h.os, k.tape.trans h.tape, k.output.trans h.output, k.size.trans h.size, fun i hi => (k.other i hi).trans (h.other i hi)⟩
theorem RowSet.below {g B : Nat} {w w' : World} (h : RowSet g w w') (hB : B ≤ g) : Below B w w' := ⟨h.os, h.tape, h.output, by rw [h.size]; exact Nat.le_refl _, fun k hk => h.other k (by omega)⟩
theorem RowSet.cell {g : Nat} {w w' : World} (h : RowSet g w w') {b o : Nat} (hb : b ≠ g) : w'.cell? ⟨b, o, none⟩ = w.cell? ⟨b, o, none⟩ := World.cell?_of_block (h.other b hb)
end Go.Proofs.YtlgnijhemfkflaaGreatDoor

namespace Go.Proofs.YtlgnijhemfkflaaGreatDoor
open Go.RowKit
set_option linter.unusedVariables false
set_option maxRecDepth 100000 in
set_option maxHeartbeats 1000000 in
theorem there_any (A P : Option Addr) (L c k d : Nat) (p n : Int) (w : World) (hL : L ≤ 9223372036854775807) (hn : n ≤ 9223372036854775807) :
    Calls Tryz.prog 221 #[.agg #[.slice A L c, .slice P k d], .int .i64 p, .int .i64 n] w fun e w' => e = .returned (.bool (okB L p n)) ∧ Below w.heap.size w w' := by
  by_cases h0 : n = 0
  · have H : Hid (okB L p n = true) := (okB_iff _ _ _).2 (.inl h0)
    subst h0;go_enter Tryz.func221, Tryz.ntmps221;go_wp2;go_ret;exact ⟨ret_bool H.out.symm, (Below.refl _ _).alloc (Nat.le_refl _) _⟩
  · have h1 : (n == 0) = false := by simp [h0]
    by_cases h2 : 0 < n ∧ 0 ≤ p ∧ p ≤ (L : Int) - n
    · have H : Hid (okB L p n = true) := (okB_iff _ _ _).2 (.inr h2)
      obtain ⟨h3, h4, h5⟩ := h2;clear h0;go_enter Tryz.func221, Tryz.ntmps221;go_wp2;go_ret;exact ⟨ret_bool H.out.symm, (Below.refl _ _).alloc (Nat.le_refl _) _⟩
    · have H : Hid (okB L p n = false) := (okB_no _ _ _).2 (by omega)
      by_cases h3 : 0 < n
      · by_cases h4 : 0 ≤ p
        · have h5 : decide (p ≤ (L : Int) - n) = false := by simp; omega
          clear h0 h2;go_enter Tryz.func221, Tryz.ntmps221;go_wp2;go_ret;exact ⟨ret_bool H.out.symm, (Below.refl _ _).alloc (Nat.le_refl _) _⟩
        · have h4 : decide (0 ≤ p) = false := by simp; omega
          clear h0 h2;go_enter Tryz.func221, Tryz.ntmps221;go_wp2;go_ret;exact ⟨ret_bool H.out.symm, (Below.refl _ _).alloc (Nat.le_refl _) _⟩
      · have h3 : decide (0 < n) = false := by simp; omega
        clear h0 h2;go_enter Tryz.func221, Tryz.ntmps221;go_wp2;go_ret;exact ⟨ret_bool H.out.symm, (Below.refl _ _).alloc (Nat.le_refl _) _⟩
theorem info_u8 : (Tryz.prog.info? 5).map (fun i => (i.zero, i.size, i.bytes)) = some (some (.int .u8 0), 1, 1) := by kernel_rfl
theorem hpos_of {w : World} {A : Option Addr} {xs : List Value} (h : Lies w A xs) {w' : World} (b : Below w.heap.size w w') (hx : 0 < xs.length) : ∃ ad, A = some ad ∧ ∀ j v, xs[j]? = some v → w'.cell? (ad.add j) = some v := by
  rcases h.keep b with rfl | ⟨g, o, rfl, _, hc⟩
  · simp at hx
  · exact ⟨_, rfl, fun j v hv => by rw [add_at]; exact hc j v hv⟩
set_option maxRecDepth 100000 in
set_option maxHeartbeats 1000000 in
theorem own_u8 (A : Option Addr) (n c : Nat) (l : List UInt8) (w : World) (hl : l.length = n) (hn : n ≤ 65536) (h : Lies w A (u8s l)) :
    Calls Tryz.prog 272 #[.slice A n c] w fun e w' => ∃ g, e = .returned (.slice (some ⟨g, 0, none⟩) n n) ∧ w.heap.size ≤ g ∧ w'.heap[g]? = some (.cells (u8s l).toArray 5 (0, 0)) ∧ Below w.heap.size w w' := by
  obtain ⟨i0, hi, hz0, hz1, hz2⟩ := info_parts info_u8;obtain ⟨Z, hZ⟩ : ∃ Z, Z = (madeCells (Value.int .u8 0).cells n).toList := ⟨_, rfl⟩;obtain ⟨X, hX⟩ : ∃ X, X = u8s l := ⟨_, rfl⟩;have hmk : (Instr.makeSlice 24 (.int .i64 (n : Int)) (.int .i64 (n : Int))).run Tryz.prog w = .ok (.slice (some ⟨w.heap.size, 0, none⟩) n n) (w.alloc (.cells Z.toArray 5)) := by
    have := run_make (P := Tryz.prog) w 24 5 i0 (.int .u8 0) Tryz.underlying24 hi hz0 .i64 .i64 n n (by omega) (Int.le_refl _) (by rw [hz2]; omega) (by omega);rw [hz1] at this;simpa [hZ] using this
  have HZ : Hid (Z.length = n) := by rw [hZ]; show _ = n; simp [size_madeCells]
  have HX : Hid (X.length = n) := by rw [hX, u8s_len]; exact hl
  have HL := Lib.hid h;have HE := Lib.hid hX;clear h hX hZ hl hi hz0 hz1 hz2;go_enter Tryz.func272, Tryz.ntmps272;(go_wp2_with (with_reducible refine wpList_copy_splice rfl (.tmp 7) (.tmp 8) 24 24 rfl 5 Tryz.underlying24 ?c0 (some ⟨w.heap.size, 0, none⟩) A n n n c rfl rfl w.heap.size 0 Z 5 ?c1 X ?c2 (fun hx => ⟨rfl, hpos_of (HE.out ▸ HL.out) ((Below.refl _ _).alloc (Nat.le_refl _) _) hx⟩) ?c3 ?c4 w.heap.size w ?c5 ?c6 ?_))
  case c0 => kernel_rfl
  case c1 => exact one_new _ _ _
  case c2 => rw [HX.out]; simp
  case c3 => rw [HX.out, HZ.out]; omega
  case c4 => rw [HE.out]; exact u8s_one l
  case c5 => exact (Below.refl _ _).alloc (Nat.le_refl _) _
  case c6 => omega
  intro w2 hg hb2;go_wp2;go_ret;refine ⟨w.heap.size, rfl, Nat.le_refl _, ?_, hb2⟩;have h2 := hg.out;have e : splice Z 0 X = X := by
    have z := HZ.out;have x := HX.out;simp [splice, z, x]
  rw [e, HE.out] at h2;exact h2
set_option maxRecDepth 100000 in
set_option maxHeartbeats 1000000 in
theorem lay_any (g L n c : Nat) (A : Option Addr) (p : Int) (row b : List UInt8) (w : World) (t : TypeId) (hL : row.length = L) (hn : b.length = n) (hL2 : L ≤ 65536) (ok : okB L p n = true) (hg : w.heap[g]? = some (.cells (u8s row).toArray t (0, 0))) (h : Lies w A (u8s b)) :
    Calls Tryz.prog 273 #[.slice (some ⟨g, 0, none⟩) L L, .int .i64 p, .slice A n c] w fun e w' => e = .returned (.tuple #[]) ∧ w'.heap[g]? = some (.cells (u8s (layF row p b)).toArray t (0, 0)) ∧ RowSet g w w' := by
  by_cases h0 : n = 0
  · have HG := Lib.hid hg
    have HR : Hid (layF row p b = row) := by
      have : b = [] := List.eq_nil_of_length_eq_zero (by omega);subst this;exact layF_none row p
    clear hg h hL hn ok;subst h0
    by_cases h1 : p < 0
    · go_enter Tryz.func273, Tryz.ntmps273
      go_wp2;refine bodyPost_ret (results_none rfl _ _ _) rfl ?_;exact ⟨rfl, by rw [HR.out]; exact HG.out, RowSet.refl _ _⟩
    · have h1' : decide (p < 0) = false := by simp; omega
      by_cases h2 : (L : Int) < p
      · go_enter Tryz.func273, Tryz.ntmps273
        go_wp2;refine bodyPost_ret (results_none rfl _ _ _) rfl ?_;exact ⟨rfl, by rw [HR.out]; exact HG.out, RowSet.refl _ _⟩
      · have h2' : decide ((L : Int) < p) = false := by simp; omega
        obtain ⟨q, rfl⟩ := Int.eq_ofNat_of_zero_le (by omega : 0 ≤ p);have h3 : (q : Int) ≤ (L : Int) := by omega
        clear h1 h2;go_enter Tryz.func273, Tryz.ntmps273;(go_wp2_with (with_reducible refine wpList_copy_nothing rfl (.tmp 16) (.tmp 17) 24 24 rfl 5 Tryz.underlying24 (by kernel_rfl) _ _ _ _ _ _ rfl rfl (by simp) ?_))
        all_goals
          go_end0
          exact ⟨rfl, by rw [HR.out]; exact HG.out, RowSet.refl _ _⟩
  · rw [okB_iff] at ok
    have h1 : 0 ≤ p := by omega
    obtain ⟨q, rfl⟩ := Int.eq_ofNat_of_zero_le h1;have h2 : (q : Int) + (n : Int) ≤ (L : Int) := by omega
    have h3 : 0 < n := by omega
    have hq : (L : Nat) ≠ q := by omega
    have HQ : Hid (q + n ≤ L) := by show _ ≤ _; omega
    obtain ⟨X, hX⟩ : ∃ X, X = u8s b := ⟨_, rfl⟩;obtain ⟨Y, hY⟩ : ∃ Y, Y = u8s row := ⟨_, rfl⟩;have HX : Hid (X.length = n) := by rw [hX, u8s_len]; exact hn
    have HY : Hid (Y.length = L) := by rw [hY, u8s_len]; exact hL
    have HR : Hid ((u8s (layF row (q : Int) b)) = splice Y q X) := by rw [hX, hY]; exact u8s_lay _ _ _
    obtain ⟨g2, o2, rfl, HC⟩ : ∃ g2 o2, A = some ⟨g2, o2, none⟩ ∧ Hid (∀ j v, X[j]? = some v → w.cell? ⟨g2, o2 + j, none⟩ = some v) := by
      rcases h with h | ⟨g2, o2, e, _, hc⟩
      · rw [← hX] at h
        have hx := HX.out;rw [h] at hx;simp at hx;omega
      · exact ⟨g2, o2, e, by rw [hX]; exact hc⟩
    have H1 : Hid (∀ v ∈ X, v.oneCell' = true) := by rw [hX]; exact u8s_one b
    rw [← hY] at hg;have HG := Lib.hid hg;clear hg h hL hn ok hX hY h0 h1;go_enter Tryz.func273, Tryz.ntmps273;(go_wp2_with (with_reducible refine wpList_copy_own rfl (.tmp 16) (.tmp 17) 24 24 rfl 5 Tryz.underlying24 ?c0 g q (L - q) (L - q) ⟨g2, o2, none⟩ n c rfl rfl Y.toArray t ?c1 X ?c2 ?c3 ?c4 ?c5 ?_))
    case c0 => kernel_rfl
    case c1 => exact HG.out
    case c2 => have := HQ.out; rw [HX.out]; show n = min n (L - q); omega
    case c3 => intro j v hv; rw [add_at]; exact HC.out j v hv
    case c4 => have := HQ.out; rw [HX.out]; simp [HY.out]; omega
    case c5 => exact H1.out
    go_end0
    refine ⟨rfl, ?_, rowSet_setRow _ _ _⟩;rw [HR.out, setRow_heap w g _ _ t _ HG.out];simp [splice]
end Go.Proofs.YtlgnijhemfkflaaGreatDoor

namespace Go.Proofs.YtlgnijhemfkflaaGreatDoor
open Go.RowKit
set_option linter.unusedVariables false
set_option linter.unusedSimpArgs false
theorem box_cells {w w1 : World} {x y : Value} {t : TypeId} (b : Below (w.alloc (.cells #[x, y] t)).heap.size (w.alloc (.cells #[x, y] t)) w1) : w1.cell? ⟨w.heap.size, 0, none⟩ = some x ∧ w1.cell? ⟨w.heap.size, 1, none⟩ = some y := by
  constructor
  · rw [b.cell (p := ⟨w.heap.size, 0, none⟩) (by simp), World.cell?_alloc_new]; rfl
  · rw [b.cell (p := ⟨w.heap.size, 1, none⟩) (by simp), World.cell?_alloc_new]; rfl
theorem box_below {w w1 : World} {o : Obj} (b : Below (w.alloc o).heap.size (w.alloc o) w1) : Below w.heap.size w w1 := ((Below.refl _ w).alloc (Nat.le_refl _) o).trans (b.mono (by simp))
theorem codeF_yes : codeF true = 0 := rfl
theorem codeF_no : codeF false = -9 := rfl
set_option maxRecDepth 100000 in
set_option maxHeartbeats 1000000 in
theorem text_any (v : Value) (m : PM) (p n : Int) (w : World) (h : IsMem w v m) (hL : m.1.length ≤ 65536) (hn : n ≤ 9223372036854775807) :
    Calls Tryz.prog 224 #[v, .int .i64 p, .int .i64 n] w fun e w' => ∃ u, e = .returned (.tuple #[u, .int .i64 (codeF (okB m.1.length p n))]) ∧ Byt w' u (textF m p n) ∧ Below w.heap.size w w' := by
  obtain ⟨A, c, P, d, rfl, hb, hp⟩ := h.parts;obtain ⟨A', c', e', hc, hm, hA⟩ := hb;injection e' with e1 _ e2
  subst e1 e2;have HT := Lib.hid (textF_no (m := m) (p := p) (n := n));have HY := Lib.hid (textF_yes (m := m) (p := p) (n := n));obtain ⟨L, hLe⟩ : ∃ L, L = m.1.length := ⟨_, rfl⟩;rw [← hLe] at hL hc ⊢;have HE := Lib.hid hLe;clear hLe;cases ok : okB L p n with
  | false =>
    clear h hp;go_enter Tryz.func224, Tryz.ntmps224;(go_wp2_with (go_at_call 221; (with_reducible refine (there_any _ _ _ _ _ _ _ _ _ (by omega) hn).mono ?_); rintro e w1 ⟨rfl, b1⟩));go_ret2;exact ⟨_, rfl, by rw [HT.out (by rw [← HE.out]; exact ok)]; exact byt_nil _, box_below b1⟩
  | true =>
    have hok := (okB_iff _ _ _).1 ok
    by_cases h0 : n = 0
    · subst h0
      clear h hp;go_enter Tryz.func224, Tryz.ntmps224;(go_wp2_with (go_at_call 221; (with_reducible refine (there_any _ _ _ _ _ _ _ _ _ (by omega) hn).mono ?_); rintro e w1 ⟨rfl, b1⟩));go_ret2;exact ⟨_, rfl, by rw [HY.out (by rw [← HE.out]; exact ok)]; simpa using byt_nil _, box_below b1⟩
    · have h0' : (n == 0) = false := by simp [h0]
      obtain ⟨h1, h2, h3⟩ := hok.resolve_left h0;obtain ⟨q, rfl⟩ := Int.eq_ofNat_of_zero_le h2;obtain ⟨k, rfl⟩ := Int.eq_ofNat_of_zero_le (Int.le_of_lt h1);have h4 : q + k ≤ L := by omega
      have h5 : 0 < k := by omega
      have hne : c ≠ q := by omega
      obtain ⟨g, o, rfl, hg, hcell⟩ : ∃ g o, A = some ⟨g, o, none⟩ ∧ g < w.heap.size ∧ Lies w (some ⟨g, o, none⟩) (u8s m.1) := by
        have hA' := hA
        rcases hA with e | ⟨g, o, rfl, hg, _⟩
        · have := congrArg List.length e
          rw [u8s_len, ← HE.out] at this;simp at this;omega
        · exact ⟨g, o, rfl, hg, hA'⟩
      have HX : Hid (Lies w (some ⟨g, o + q, none⟩) (u8s (textF m q k))) := by
        show Lies w _ _;rw [HY.out (by rw [← HE.out]; exact ok)];have := hcell.part q k;simpa [u8s, List.map_take, List.map_drop] using this
      have HK : Hid ((textF m q k).length = k) := by rw [HY.out (by rw [← HE.out]; exact ok)]; show _ = _; have := HE.out; simp; omega
      clear h hp hcell hA hok h0 h1 h2 h3;go_enter Tryz.func224, Tryz.ntmps224;(go_wp2_with fail);refine (there_any _ _ _ _ _ _ _ _ _ (by omega) hn).mono ?_;rintro e w1 ⟨rfl, b1⟩;obtain ⟨k0, k1⟩ := box_cells b1;have B1 := Lib.hid (box_below b1);clear b1;(go_wp2_with fail);refine (own_u8 _ k _ (textF m q k) _ HK.out (by omega) (HX.out.keep B1.out)).mono ?_;rintro e w2 ⟨g2, rfl, hg2, hh, b2⟩;have HH := Lib.hid hh;clear hh;(go_wp2_with fail);go_ret2;exact ⟨_, rfl, by have := byt_block HH.out (by rw [HK.out]; omega); rwa [HK.out] at this, below_then B1.out b2⟩
end Go.Proofs.YtlgnijhemfkflaaGreatDoor

namespace Go.Proofs.YtlgnijhemfkflaaGreatDoor
open Go.RowKit
set_option linter.unusedVariables false
set_option linter.unusedSimpArgs false
theorem run_copy_two {P : Program} (w : World) (dT sT ty elem : TypeId) (g dLen dCap : Nat) (A : Option Addr) (sLen sCap : Nat) (cur : Array Value) (t : TypeId) (cs : List Value)
    (hu : P.underlying dT = some (.slice elem)) (hs : (P.info? elem).map (·.size) = some 2)
    (hg : w.heap[g]? = some (.cells cur t (0, 0))) (hn : cs.length = Nat.min sLen dLen * 2)
    (hsrc : Lies w A cs) (hfit : cs.length ≤ cur.size) (h1 : ∀ v ∈ cs, v.oneCell' = true) :
    (Builtin.copy_ #[dT, sT] ty #[.slice (some ⟨g, 0, none⟩) dLen dCap, .slice A sLen sCap]).run P w =
      .ok (goInt (Nat.min sLen dLen)) (w.setRow g (cs ++ cur.toList.drop cs.length).toArray) := by
  have hst := run_storeCells_at P g 0 t cs 0 cur w hg (by simpa using hfit) h1;cases hq : P.info? elem with
  | none => simp [hq] at hs
  | some i =>
    have hi : i.size = 2 := by simpa [hq] using hs
    rcases hsrc with rfl | ⟨g2, o2, rfl, _, hc⟩
    · have h0 : Nat.min sLen dLen = 0 := by simp at hn; omega
      have hl : ∀ (x : Addr), (loadCells x 0).run P w = .ok #[] w := fun x => by simpa using run_loadCells_list (P := P) w x [] (by simp)
      have e : w.setRow g ([] ++ cur.toList.drop ([] : List Value).length).toArray = w := by simpa using setRow_self w g cur t (0, 0) hg
      rw [e];cases A <;> simp [Builtin.copy_, run_underlying hu, Builtin.lenOf, Builtin.firstCells, sizeOf, typeInfo, hq, h0, storeCells, hl]
    · have hl := run_loadCells_list (P := P) w ⟨g2, o2, none⟩ cs (fun j v hv => by rw [add_at]; exact hc j v hv)
      rw [hn] at hl;simp at hst;simp [Builtin.copy_, run_underlying hu, Builtin.lenOf, Builtin.firstCells, sizeOf, typeInfo, hq, hi, hl, hst]
theorem wpList_copy_two {P : Program} {w : World} {ops : Array Oper} {rest : List Oper} {o : Oper} {a : Act} {Q : Exit → Act → World → Prop} (hgd : o.guard = none) (d s : Operand) (dT sT : TypeId)
    (ho : o.op = .call { callee := .builtin .copy, args := #[d, s], argTypes := #[dT, sT] }) (elem : TypeId) (hu : P.underlying dT = some (.slice elem)) (hsz : (P.info? elem).map (·.size) = some 2)
    (g dLen dCap : Nat) (A : Option Addr) (sLen sCap : Nat) (hd : a.eval d = .slice (some ⟨g, 0, none⟩) dLen dCap) (hs : a.eval s = .slice A sLen sCap)
    (cur : Array Value) (t : TypeId) (hg : w.heap[g]? = some (.cells cur t (0, 0))) (cs : List Value) (hn : cs.length = Nat.min sLen dLen * 2)
    (hsrc : Lies w A cs) (hfit : cs.length ≤ cur.size) (h1 : ∀ v ∈ cs, v.oneCell' = true)
    (h : wpList P ops Q rest (a.put o.dst (goInt (Nat.min sLen dLen))) (w.setRow g (cs ++ cur.toList.drop cs.length).toArray)) : wpList P ops Q (o :: rest) a w := by
  refine wpList_plain hgd fun K hK => ?_
  have hrun := run_copy_two (P := P) w dT sT o.type elem g dLen dCap A sLen sCap cur t cs hu hsz hg hn hsrc hfit h1;unfold Oper.wp;simp [execOp, ho, resolve, invoke, builtin, hd, hs, hrun, Result.andThen];exact hK _ _ h
theorem wpList_copy_two' {P : Program} {w : World} {ops : Array Oper} {rest : List Oper} {o : Oper} {a : Act} {Q : Exit → Act → World → Prop} (hgd : o.guard = none) (d s : Operand) (dT sT : TypeId)
    (ho : o.op = .call { callee := .builtin .copy, args := #[d, s], argTypes := #[dT, sT] }) (elem : TypeId) (hu : P.underlying dT = some (.slice elem)) (hsz : (P.info? elem).map (·.size) = some 2)
    (g dLen dCap : Nat) (A : Option Addr) (sLen sCap : Nat) (hd : a.eval d = .slice (some ⟨g, 0, none⟩) dLen dCap) (hs : a.eval s = .slice A sLen sCap)
    (cur : Array Value) (t : TypeId) (hg : w.heap[g]? = some (.cells cur t (0, 0))) (cs : List Value) (hn : cs.length = Nat.min sLen dLen * 2)
    (hsrc : Lies w A cs) (hfit : cs.length ≤ cur.size) (h1 : ∀ v ∈ cs, v.oneCell' = true)
    (h : ∀ w', Hid (w'.heap[g]? = some (.cells (cs ++ cur.toList.drop cs.length).toArray t (0, 0))) → RowSet g w w' → wpList P ops Q rest (a.put o.dst (goInt (Nat.min sLen dLen))) w') : wpList P ops Q (o :: rest) a w :=
  wpList_copy_two hgd d s dT sT ho elem hu hsz g dLen dCap A sLen sCap hd hs cur t hg cs hn hsrc hfit h1 (h _ (setRow_heap w g _ _ t _ hg) (rowSet_setRow _ _ _))
theorem set_two (X D : List Value) (n : Nat) (p : Int) (v : Value) (hx : X.length = 2 * n) (hd : D.length = 2) : (((X ++ D).toArray.setIfInBounds (n * 2) (.int .i64 p)).setIfInBounds (n * 2 + 1) v) = (X ++ pc [(p, v)]).toArray := by
  match D, hd with
  | [a, b], _ =>
    have e1 : n * 2 = X.length := by omega
    rw [e1];simp [pc]
theorem info_patch : (Tryz.prog.info? 118).map (fun i => (i.zero, i.size, i.bytes)) = some (some (.agg #[.int .i64 0, .slice none 0 0]), 2, 32) := by kernel_rfl
theorem pc_one {w : World} {qs : List Qt} {ps : List Pt} (h : Tells w qs ps) : ∀ v ∈ pc qs, v.oneCell' = true := by
  intro v hv;unfold pc at hv;rw [List.mem_flatMap] at hv;obtain ⟨q, hq, hv⟩ := hv;obtain ⟨i, hi, rfl⟩ := List.mem_iff_getElem.1 hq;have hp : i < ps.length := by rw [← h.1]; exact hi
  obtain ⟨_, A, c, e, _⟩ := h.2 i _ _ (List.getElem?_eq_getElem hi) (List.getElem?_eq_getElem hp);simp at hv
  rcases hv with rfl | rfl
  · rfl
  · rw [e]; rfl
set_option maxRecDepth 100000 in
set_option maxHeartbeats 1000000 in
theorem with_any (A : Option Addr) (n c : Nat) (qs : List Qt) (p : Int) (B : Option Addr) (k e : Nat) (w : World) (hl : qs.length = n) (hn : n ≤ 1000) (h : Lies w A (pc qs)) (h1 : ∀ v ∈ pc qs, v.oneCell' = true) :
    Calls Tryz.prog 274 #[.slice A n c, .agg #[.int .i64 p, .slice B k e]] w fun e' w' => ∃ g, e' = .returned (.slice (some ⟨g, 0, none⟩) (n + 1) (n + 1)) ∧ w.heap.size ≤ g ∧ w'.heap[g]? = some (.cells (pc (qs ++ [(p, .slice B k e)])).toArray 118 (0, 0)) ∧ Below w.heap.size w w' := by
  obtain ⟨i0, hi, hz0, hz1, hz2⟩ := info_parts info_patch;obtain ⟨Z, hZ⟩ : ∃ Z, Z = madeCells (Value.agg #[.int .i64 0, .slice none 0 0]).cells ((n + 1) * 2) := ⟨_, rfl⟩;obtain ⟨X, hX⟩ : ∃ X, X = pc qs := ⟨_, rfl⟩;have hmk : ∀ w : World, (Instr.makeSlice 25 (.int .i64 ((n : Int) + 1)) (.int .i64 ((n : Int) + 1))).run Tryz.prog w = .ok (.slice (some ⟨w.heap.size, 0, none⟩) (n + 1) (n + 1)) (w.alloc (.cells Z 118)) := by
    intro w;have := run_make (P := Tryz.prog) w 25 118 i0 (.agg #[.int .i64 0, .slice none 0 0]) Tryz.underlying25 hi hz0 .i64 .i64 ((n : Int) + 1) ((n : Int) + 1) (by omega) (Int.le_refl _) (by rw [hz2]; omega) (by omega);rw [hz1] at this;rw [hZ];simpa using this
  have HZ : Hid (Z.size = 2 * n + 2) := by rw [hZ, size_madeCells]; show _ = _; omega
  have HX : Hid (X.length = 2 * n) := by rw [hX, pc_len, hl]; rfl
  have HL : Hid (Lies w A X) := by rw [hX]; exact h
  have H1 : Hid (∀ v ∈ X, v.oneCell' = true) := by rw [hX]; exact h1
  have HE := Lib.hid hX;clear h h1 hX hZ hl hi hz0 hz1 hz2;go_enter Tryz.func274, Tryz.ntmps274;(go_wp2_with (with_reducible refine wpList_copy_two' rfl (.tmp 10) (.tmp 11) 25 25 rfl 118 Tryz.underlying25 ?c0 (w.heap.size + 1) (n + 1) (n + 1) A n c rfl rfl Z 118 ?c1 X ?c2 ?c3 ?c4 ?c5 ?_))
  case c0 => kernel_rfl
  case c1 => exact (two_new _ _ _ _ _).1
  case c2 => rw [HX.out]; show _ = min n (n + 1) * 2; omega
  case c3 => exact HL.out.keep (((Below.refl _ _).alloc (Nat.le_refl _) _).alloc (by simp) _)
  case c4 => rw [HX.out, HZ.out]; omega
  case c5 => exact H1.out
  intro w2 hg2 rs;obtain ⟨Y, hY⟩ : ∃ Y, Y = X ++ Z.toList.drop X.length := ⟨_, rfl⟩;have HY : Hid (Y = X ++ Z.toList.drop X.length) := hY;have HYL : Hid (Y.length = 2 * n + 2) := by rw [hY]; have x := HX.out; have z := HZ.out; show _ = _; simp [x, z]
  rw [← hY] at hg2;clear hY;have k0 : w2.cell? ⟨w.heap.size, 0, none⟩ = some (.int .i64 p) := by
    rw [rs.cell (by simp)];exact cells_at (cs := [.int .i64 p, .slice B k e]) (two_new _ _ _ _ _).2 0 _ rfl
  have k1 : w2.cell? ⟨w.heap.size, 1, none⟩ = some (.slice B k e) := by
    rw [rs.cell (by simp)];exact cells_at (cs := [.int .i64 p, .slice B k e]) (two_new _ _ _ _ _).2 1 _ rfl
  have k2 : w2.cell? ⟨w.heap.size + 1, n * 2, none⟩ = some (Y[n * 2]'(by rw [HYL.out]; omega)) := by
    simp [World.cell?, hg2.out]
  have k3 : w2.cell? ⟨w.heap.size + 1, n * 2 + 1, none⟩ = some (Y[n * 2 + 1]'(by rw [HYL.out]; omega)) := by
    simp [World.cell?, hg2.out]
  have f2 : ∀ i, w2.frozen? ⟨w.heap.size + 1, i, none⟩ = false := fun i => by simp [World.frozen?, hg2.out]
  have RS := Lib.hid rs;clear rs;go_wp2;go_ret;refine ⟨w.heap.size + 1, rfl, by omega, ?_, ((RS.out.below (Nat.le_refl _)).mono (by simp : w.heap.size ≤ w.heap.size + 1) |> fun b => ((((Below.refl w.heap.size w).alloc (Nat.le_refl _) _).alloc (by simp) _).trans b)).setCell (by simp) _ |>.setCell (by simp) _⟩;rw [Go.Joins.block_setCell (Go.Joins.block_setCell hg2.out _), pc_app];have x := HX.out;have z := HZ.out;rw [HY.out, ← HE.out]
  congr 2
  exact set_two X _ n p _ x (by simp [x, z])
end Go.Proofs.YtlgnijhemfkflaaGreatDoor
