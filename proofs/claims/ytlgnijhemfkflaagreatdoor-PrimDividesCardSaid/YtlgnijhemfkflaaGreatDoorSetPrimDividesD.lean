/- Part 4. -/
import Derived.Test.YtlgnijhemfkflaaGreatDoorSetPrimDividesZero
import Derived.Test.YtlgnijhemfkflaaGreatDoorSetPrimDividesC
import Derived.Lib.MakeNoZero
import Derived.Deep.RegionLaw
import Derived.Laws.IdiomStrings
import Derived.Laws.BytesString
import Derived.Test.YtlgnijhemfkflaaGreatDoorSetPrimDividesA
import Derived.ProofKit
import Derived.OpenShut
import Derived.ShutString
import Derived.ChangeOld
import Derived.Below
import Derived.Lib.SmallJoins
import Derived.Deep.Slices
import Derived.Deep.Fields
set_option linter.unusedVariables false
set_option linter.unusedSimpArgs false

namespace Go.Proofs.YtlgnijhemfkflaaGreatDoor
open Go.RowKit
set_option linter.unusedVariables false
set_option linter.unusedSimpArgs false
set_option maxRecDepth 100000 in
set_option maxHeartbeats 1000000 in
theorem mul_one (n : Nat) (w : World) (hn : n ≤ 65536) :
    Calls Tryz.prog 276 #[.int .u64 1, .int .u64 (n : Int)] w fun e w' => e = .returned (.tuple #[.int .u64 0, .int .u64 (n : Int)]) ∧ w = w' := by
  have c := fun w => Tryz.bits_Mul64m 1 n (by omega) (by omega) w
  rw [show (1 * n / 18446744073709551616 : Nat) = 0 by omega, show (1 * n % 18446744073709551616 : Nat) = n by omega] at c;have C := Lib.hid c;clear c;go_enter Tryz.func276, Tryz.ntmps276;(go_wp2_with fail);refine (C.out _).mono ?_;rintro e w' ⟨rfl, rfl⟩;(go_wp2_with fail);go_ret2;exact ⟨rfl, rfl⟩
theorem one_src {w : World} {g o : Nat} {v : Value} (hg : g < w.heap.size) (hc : w.cell? ⟨g, o, none⟩ = some v) {ob : Obj} {i : Nat} : ∀ j u, [v][j]? = some u → ((w.alloc ob).drewN i).cell? ((⟨g, o, none⟩ : Addr).add j) = some u := by
  intro j u hu;have hj : j = 0 := by have := (List.getElem?_eq_some_iff.1 hu).1; simp at this; omega
  subst hj;have b : Below w.heap.size w ((w.alloc ob).drewN i) := ((Below.refl _ _).alloc (Nat.le_refl _) _).trans (Go.Joins.below_draws _ _ _);rw [add_at, b.cell (p := ⟨g, o + 0, none⟩) hg];simp at hu;rw [← hu];exact hc
theorem size_u8 : (Tryz.prog.info? 5).map (·.size) = some 1 := by kernel_rfl
def Filled (g k cap : Nat) (x : UInt8) (w : World) : Prop := ∃ cur : List Value, w.heap[g]? = some (.cells cur.toArray 5 (0, 0)) ∧ cur.length = cap ∧ ∀ j, j < k → cur[j]? = some (.int .u8 (x.toNat : Int))
set_option maxRecDepth 100000 in
set_option maxHeartbeats 4000000 in
theorem repeat_one (A : Option Addr) (c : Nat) (x : UInt8) (n : Nat) (w : World) (h : Lies w A (u8s [x])) (hn : n ≤ 8192) :
    Calls Tryz.prog 223 #[.slice A 1 c, .int .i64 (n : Int)] w fun e w' => ∃ B k c', e = .returned (.slice B k c') ∧ Byt w' (.slice B k c') (List.replicate n x) ∧ Below w.heap.size w w' := by
  by_cases h0 : n = 0
  · subst h0
    go_enter Tryz.func223, Tryz.ntmps223;go_wp2;go_ret;exact ⟨_, _, _, rfl, ⟨_, _, rfl, by simp, by simp [maxLen], .inl rfl⟩, (Below.refl _ _).alloc (Nat.le_refl _) _⟩
  · have h0' : ((n : Int) == 0) = false := by simp; omega
    have h1 : decide ((8192 : Int) < (n : Int)) = false := by simp; omega
    obtain ⟨cs, hrunM, hle, hmax⟩ := Lib.run_makeNoZero (P := Tryz.prog) w #[3] 24 5 Tryz.underlying24 n (by omega);have hcall : (callFunc 277 #[.int .i64 (n : Int)]).run Tryz.prog w = .ok (.value (.slice (some ⟨w.heap.size, 0, none⟩) n cs.size)) ((w.alloc (.cells cs 5)).drewN 2) := by
      rw [run_callFunc_extern Tryz.func277 (by kernel_rfl) (by kernel_rfl) (by kernel_rfl) (e := Extern.BytealgMakeNoZero.makeNoZero #[3] #[24]) (by kernel_rfl), hrunM];rfl
    clear hrunM hmax;obtain ⟨Z⟩ := cs;simp only [List.size_toArray] at hle hcall;have h2 : decide ((n : Int) < 0) = false := by simp
    have h3 : decide ((9223372036854775807 : Int) < (n : Int)) = false := by simp; omega
    obtain ⟨g1, o1, rfl, hg1, hc1⟩ : ∃ g1 o1, A = some ⟨g1, o1, none⟩ ∧ g1 < w.heap.size ∧ w.cell? ⟨g1, o1, none⟩ = some (.int .u8 (x.toNat : Int)) := by
      rcases h with e | ⟨g1, o1, e, hg, hc⟩
      · simp [u8s] at e
      · exact ⟨g1, o1, e, hg, hc 0 _ rfl⟩
    have hz : (n : Int) ≤ (Z.length : Int) := by omega
    have hnp : 0 < n := by omega
    clear h0 h;go_enter Tryz.func223, Tryz.ntmps223;(go_wp2_with fail);refine (mul_one n _ (by omega)).mono ?_;rintro e w' ⟨rfl, rfl⟩;(go_wp2_with (with_reducible refine wpList_copy_splice rfl (.tmp 58) (.tmp 59) 24 24 rfl 5 Tryz.underlying24 ?c0 (some ⟨w.heap.size, 0, none⟩) (some ⟨g1, o1, none⟩) n n 1 c rfl rfl w.heap.size 0 Z 5 ?c1 [.int .u8 (x.toNat : Int)] ?c2 (fun _ => ⟨rfl, ⟨g1, o1, none⟩, rfl, one_src hg1 hc1⟩) ?c3 ?c4 w.heap.size w ?c5 ?c6 ?_))
    case c0 => kernel_rfl
    case c1 => exact one_new _ _ _
    case c2 => show 1 = min 1 n; omega
    case c3 => show 0 + 1 ≤ Z.length; omega
    case c4 => simp [Value.oneCell']
    case c5 => exact ((Below.refl _ _).alloc (Nat.le_refl _) _).trans (Go.Joins.below_draws _ _ _)
    case c6 => omega
    intro w2 hg2 hb2;have HF : Hid (Filled w.heap.size 1 Z.length x w2) := by
      refine ⟨_, hg2.out, length_splice _ _ _ (by show 0 + 1 ≤ Z.length; omega), fun j hj => ?_⟩;obtain rfl : j = 0 := by omega
      simp [splice]
    clear hg2 hcall hc1;(go_wp2_with fail)
    go_loopw [10, 11] (fun b ch wr => ∃ k : Nat, 1 ≤ k ∧ k ≤ n ∧ b = .int .i64 (k : Int) ∧ Filled w.heap.size k Z.length x wr ∧ Below w.heap.size w wr) (fun b _ _ => n - (intOf b).toNat)
    case atStart => exact ⟨1, by omega, by omega, rfl, HF.out, hb2⟩
    case round =>
      obtain ⟨k, hk1, hk2, rfl, hfil, hb⟩ := hrel
      by_cases hlt : k < n
      · obtain ⟨cur, hcur, hcl, hall⟩ := hfil
        have HC := Lib.hid hcur;have HCL := Lib.hid hcl;have HA := Lib.hid hall;have hne : n ≠ k := by omega
        have hmn : ¬ (n : Int) < (k : Int) := by omega
        clear hcur hcl hall;obtain ⟨t, ht⟩ : ∃ t, min k (n - k) = t := ⟨_, rfl⟩;have ht1 : t ≤ k := by omega
        have ht2 : k + t ≤ n := by omega
        have ht3 : 0 < t := by omega
        have HT := Lib.hid ht;obtain ⟨X, hX⟩ : ∃ X : List Value, X = List.replicate t (.int .u8 (x.toNat : Int)) := ⟨_, rfl⟩;have HXL : Hid (X.length = t) := by rw [hX]; simp [Hid]
        have HX := Lib.hid hX;have hkn1 : (k : Int) ≤ (n : Int) := by omega
        have D2 : Hid (X.length = Nat.min k (n - k)) := by rw [HXL.out]; exact ht.symm
        have HC2 : Hid (wr.drew.heap[w.heap.size]? = some (.cells cur.toArray 5 (0, 0))) := HC.out;have HD : Hid (Below w.heap.size w wr.drew) := hb.drew;have D3 : Hid (∀ j v, X[j]? = some v → wr.drew.cell? ((⟨w.heap.size, 0, none⟩ : Addr).add j) = some v) := by
          intro j v hv;have hj : j < t := by have := (List.getElem?_eq_some_iff.1 hv).1; rw [HXL.out] at this; exact this
          have hv2 := hv;rw [hX] at hv2;simp [hj] at hv2;rw [add_at, Nat.zero_add, ← hv2];have h4 := HA.out j (by omega);have h5 : wr.cell? ⟨w.heap.size, j, none⟩ = some (.int .u8 (x.toNat : Int)) := by simp [World.cell?, HC.out, h4]
          exact h5
        have D4 : Hid (k + X.length ≤ cur.length) := by rw [HXL.out, HCL.out]; show _ ≤ _; omega
        have D5 : Hid (∀ v ∈ X, v.oneCell' = true) := by rw [hX]; intro v hv; rw [List.mem_replicate] at hv; rw [hv.2]; rfl
        have hwr : IntKind.i64.wrap ((k : Int) + (X.length : Int)) = ((k + t : Nat) : Int) := by rw [HXL.out, IntKind.wrap_i64]; omega
        clear ht hX;(go_wp2_with fail)
        go_region_held3 (fun w' => Below w.heap.size w w') (first | exact hb.drew | exact hb4) ((with_reducible refine step_copy_splice rfl (.tmp 70) (.tmp 73) 24 24 rfl 5 Tryz.underlying24 size_u8 (some ⟨w.heap.size, k, none⟩) (some ⟨w.heap.size, 0, none⟩) (n - k) (n - k) k n rfl rfl w.heap.size k cur 5 HC2.out X D2.out (fun _ => ⟨rfl, ⟨w.heap.size, 0, none⟩, rfl, D3.out⟩) D4.out D5.out w.heap.size w HD.out (Nat.le_refl _) ?_; intro w4 hg4 hb4))
        have HF4 : Hid (Filled w.heap.size (k + t) Z.length x w4) := by
          have hx1 := HXL.out;have hc1 := HCL.out;refine ⟨_, hg4.out, (length_splice _ _ _ (by rw [hx1]; omega)).trans hc1, fun j hj => ?_⟩;unfold splice
          by_cases hjk : j < k
          · rw [List.getElem?_append_left (by simp; omega), List.getElem?_take, if_pos hjk]
            exact HA.out j hjk
          · rw [List.getElem?_append_right (by simp; omega), List.getElem?_append_left (by simp; omega), HX.out]
            have e1 : (cur.take k).length = k := by simp; omega
            rw [e1, List.getElem?_replicate, if_pos (by omega)]
        have HB4 := Lib.hid hb4;clear hg4 hb4 hb;go_wp2
        go_roundw
        case rel => exact ⟨k + t, by omega, by omega, rfl, HF4.out, HB4.out⟩
        case measure => simp [intOf]; omega
      · have hkn : k = n := by omega
        subst hkn;obtain ⟨cur, hcur, hcl, hall⟩ := hfil;have HBY : Hid (Byt wr (.slice (some ⟨w.heap.size, 0, none⟩) k k) (List.replicate k x)) := by
          refine ⟨some ⟨w.heap.size, 0, none⟩, k, by simp, by simp, by unfold maxLen; omega, .inr ⟨w.heap.size, 0, rfl, (Array.getElem?_eq_some_iff.1 hcur).1, fun j v hv => ?_⟩⟩;have hj : j < k := by have := (List.getElem?_eq_some_iff.1 hv).1; simpa [u8s] using this
          rw [Nat.zero_add];simp only [World.cell?, hcur];have h4 := hall j hj;simp [u8s, hj] at hv;simp [h4, hv]
        have HBL := Lib.hid hb;clear hcur hcl hall hb;go_wp2;go_ret;exact ⟨_, _, _, rfl, HBY.out, HBL.out⟩
end Go.Proofs.YtlgnijhemfkflaaGreatDoor

namespace Go.Proofs.YtlgnijhemfkflaaGreatDoor
open Go.RowKit
set_option linter.unusedVariables false
set_option linter.unusedSimpArgs false
theorem fill_no {m : PM} {p n c : Int} (h : okB m.1.length p n = false) : fillF m p n c = m := by unfold fillF; rw [if_neg (by simp [h])]
theorem fill_yes {m : PM} {p n c : Int} (h : okB m.1.length p n = true) : fillF m p n c = writeF m p (List.replicate n.toNat (lowB c)) := by unfold fillF; rw [if_pos h]
end Go.Proofs.YtlgnijhemfkflaaGreatDoor

namespace Go.Proofs.YtlgnijhemfkflaaGreatDoor
open Go.RowKit
set_option linter.unusedVariables false
set_option linter.unusedSimpArgs false
theorem mem_patch {w : World} {P : Option Addr} {K d : Nat} {x : Value} {m : PM} (h : IsMem w (.agg #[x, .slice P K d]) m) {j : Nat} (hj : j < K) :
    ∃ g o B n e p, P = some ⟨g, o, none⟩ ∧ g < w.heap.size ∧ m.2[j]? = some p ∧ w.cell? ⟨g, o + j * 2, none⟩ = some (.int .i64 p.1) ∧ w.cell? ⟨g, o + j * 2 + 1, none⟩ = some (.slice B n e) ∧ Byt w (.slice B n e) p.2 ∧ n ≤ maxLen ∧ K ≤ d := by
  have hl := h.len2;have hp : m.2[j]? = some (m.2[j]'(by omega)) := List.getElem?_eq_getElem (by omega);obtain ⟨A', c', qs, e, hk, _, hlies, ht⟩ := h.pats;injection e with e1 _ e3
  subst e1 e3;obtain ⟨v, hq, hb⟩ := ht.at_ hp;obtain ⟨B, c, rfl⟩ := hb.form;have hlen := pc_at qs j _ hq
  rcases hlies with e | ⟨g, o, rfl, hg, hc⟩
  · rw [e] at hlen
    simp at hlen
  · have hm : (m.2[j]'(by omega)).2.length ≤ maxLen := by
      obtain ⟨A2, c2, e2, h2, h3, _⟩ := hb;omega
    refine ⟨g, o, B, _, c, _, rfl, hg, hp, ?_, ?_, hb, hm, by omega⟩
    · have := hc (2 * j) _ hlen.1
      rw [Nat.mul_comm j 2];exact this
    · have := hc (2 * j + 1) _ hlen.2
      rw [Nat.mul_comm j 2, Nat.add_assoc];exact this
theorem IsMem.big {w : World} {A P : Option Addr} {L c K d : Nat} {m : PM} (h : IsMem w (.agg #[.slice A L c, .slice P K d]) m) : L ≤ maxLen ∧ K ≤ maxLen := by
  have h1 := h.byt;have h2 := h.pats;obtain ⟨_, _, e, h3, h4, _⟩ := h1;obtain ⟨_, _, _, e', h5, h6, _⟩ := h2;injection e with _ e _
  injection e' with _ e' _
  omega
def Rt (w : World) (A P : Option Addr) (L c K d : Nat) (w' : World) : Prop := Below w.heap.size w w' ∧ Box w' w.heap.size (.slice A L c) (.slice P K d) 27
theorem Rt.bel {w w1 : World} {A P : Option Addr} {L c K d : Nat} (h : Rt w A P L c K d w1) : Below w.heap.size w w1 := h.1
theorem Rt.box {w w1 : World} {A P : Option Addr} {L c K d : Nat} (h : Rt w A P L c K d w1) : Box w1 w.heap.size (.slice A L c) (.slice P K d) 27 := h.2
theorem Rt.keep {w w1 w2 : World} {A P : Option Addr} {L c K d : Nat} (h : Rt w A P L c K d w1) (b : Below w1.heap.size w1 w2) : Rt w A P L c K d w2 := ⟨below_then h.1 b, h.2.keep b⟩
theorem Rt.drew {w w1 : World} {A P : Option Addr} {L c K d : Nat} (h : Rt w A P L c K d w1) : Rt w A P L c K d w1.drew := ⟨h.1.drew, h.2⟩
end Go.Proofs.YtlgnijhemfkflaaGreatDoor

namespace Go.Proofs.YtlgnijhemfkflaaGreatDoor
open Go.RowKit
set_option linter.unusedVariables false
set_option linter.unusedSimpArgs false
def strB (l : List UInt8) : ByteArray := ⟨l.toArray⟩
theorem strB_inj {a b : List UInt8} (h : strB a = strB b) : a = b := by
  have : a.toArray = b.toArray := congrArg ByteArray.data h;simpa using this
theorem str_ne {a b : ByteArray} (h : a ≠ b) : (a.toList == b.toList) = false := by
  rw [beq_eq_false_iff_ne];intro e;rw [ByteArray.toList_eq, ByteArray.toList_eq] at e
  apply h
  cases a
  cases b
  congr 1
  exact Array.toList_inj.1 e
theorem Byt.conv {w : World} {A : Option Addr} {n c : Nat} {l : List UInt8} (h : Byt w (.slice A n c) l) : (convert 24 9 (.slice A n c)).run Tryz.prog w = .ok (.string (strB l)) w := by
  have hl := h.len;subst hl
  rcases h.lies with e | ⟨g, o, rfl, _, hc⟩
  · have : l = [] := by
      have := congrArg List.length e;rw [u8s_len] at this;exact List.eq_nil_of_length_eq_zero this
    subst this;rw [run_convert_bytes_string w 24 9 5 _ _ _ Tryz.underlying24 Tryz.underlying5 Tryz.underlying9];cases A <;> simp [Conv.bytesToString, loadCells, strB]
    all_goals rfl
  · refine run_convert_bytes_back w 24 9 5 ⟨g, o, none⟩ c l Tryz.underlying24 Tryz.underlying5 Tryz.underlying9 fun j hj => ?_
    rw [add_at];exact hc j _ (u8s_at hj)
theorem take_eq_step {α : Type} {a b : List α} {j : Nat} {p q : α} (h : a.take j = b.take j) (hp : a[j]? = some p) (hq : b[j]? = some q) (e : p = q) : a.take (j + 1) = b.take (j + 1) := by
  have h1 := (List.getElem?_eq_some_iff.1 hp);have h2 := (List.getElem?_eq_some_iff.1 hq);obtain ⟨i1, e1⟩ := h1;obtain ⟨i2, e2⟩ := h2;rw [List.take_succ_eq_append_getElem i1, List.take_succ_eq_append_getElem i2, h, e1, e2, e]
end Go.Proofs.YtlgnijhemfkflaaGreatDoor

namespace Go.Proofs.YtlgnijhemfkflaaGreatDoor
open Go.RowKit
set_option linter.unusedVariables false
set_option linter.unusedSimpArgs false
def digN (n : Nat) : Nat := if n ≤ 9 then 48 + n else if n ≤ 35 then 55 + n else 63
def digF (n : Int) : Int := if 0 ≤ n then (digN n.toNat : Int) else 63
def wN (c : Nat) : Nat := if 48 ≤ c ∧ c ≤ 57 then c - 48 else if 65 ≤ c ∧ c ≤ 90 then c - 55 else if 97 ≤ c ∧ c ≤ 122 then c - 87 else 99
def baseB (b : Int) : Bool := decide (2 ≤ b ∧ b ≤ 36)
theorem baseB_iff (b : Int) : baseB b = true ↔ (2 ≤ b ∧ b ≤ 36) := by unfold baseB; simp
theorem baseB_no (b : Int) : baseB b = false ↔ ¬ (2 ≤ b ∧ b ≤ 36) := by unfold baseB; rw [decide_eq_false_iff_not]
def isW (c : Nat) (b : Int) : Bool := decide (2 ≤ b ∧ b ≤ 36 ∧ (wN c : Int) < b)
theorem isW_iff (c : Nat) (b : Int) : isW c b = true ↔ (2 ≤ b ∧ b ≤ 36 ∧ (wN c : Int) < b) := by unfold isW; simp
theorem isW_no (c : Nat) (b : Int) : isW c b = false ↔ ¬ (2 ≤ b ∧ b ≤ 36 ∧ (wN c : Int) < b) := by unfold isW; rw [decide_eq_false_iff_not]
def worthF (c : Nat) (b : Int) : Int := if isW c b = true then (wN c : Int) else 0
def usF (b u : Nat) : List UInt8 :=
  if h : 2 ≤ b ∧ b ≤ u then usF b (u / b) ++ [UInt8.ofNat (digN (u % b))] else [UInt8.ofNat (digN u)]
termination_by u
decreasing_by exact Nat.div_lt_self (by omega) (by omega)
theorem usF_big {b u : Nat} (h2 : 2 ≤ b) (h : b ≤ u) : usF b u = usF b (u / b) ++ [UInt8.ofNat (digN (u % b))] := by
  rw [usF, dif_pos ⟨h2, h⟩]
theorem usF_low {b u : Nat} (h : u < b) : usF b u = [UInt8.ofNat (digN u)] := by
  rw [usF, dif_neg (by omega)]
def ushowF (n b : Int) : List UInt8 := if baseB b = true then usF b.toNat (un n) else []
def showF (n b : Int) : List UInt8 := if baseB b = true then (if 0 ≤ n then usF b.toNat n.toNat else 45 :: usF b.toNat (-n).toNat) else []
def showC (b : Int) : Int := if baseB b = true then 0 else -24
end Go.Proofs.YtlgnijhemfkflaaGreatDoor

namespace Go.Proofs.YtlgnijhemfkflaaGreatDoor
open Go.RowKit
set_option linter.unusedVariables false
set_option linter.unusedSimpArgs false
theorem w64_id {n : Int} (h0 : -9223372036854775808 ≤ n) (h1 : n ≤ 9223372036854775807) : wrap64 n = n := IntWalk.wrap64_in n ⟨h0, h1⟩
theorem digN_lt (n : Nat) : digN n < 256 := by unfold digN; split; omega; split <;> omega
theorem digN_u8 (n : Nat) : (UInt8.ofNat (digN n)).toNat = digN n := by
  rw [UInt8.toNat_ofNat'];have := digN_lt n;omega
theorem us_ne {b u : Nat} : usF b u ≠ [] := by
  rw [usF]
  split <;> simp
end Go.Proofs.YtlgnijhemfkflaaGreatDoor

namespace Go.Proofs.YtlgnijhemfkflaaGreatDoor
open Go.RowKit
set_option linter.unusedVariables false
set_option linter.unusedSimpArgs false
theorem strB_size (l : List UInt8) : (strB l).size = l.length := rfl
theorem strB_app (a b : List UInt8) : strB a ++ strB b = strB (a ++ b) := by
  apply ByteArray.ext
  simp [strB, ByteArray.data_append]
theorem one_newN (w1 : World) (b : Array Value) (t : TypeId) : (w1.alloc (.cells b t)).heap[w1.heap.size]? = some (.cells b t (0, 0)) := by
  show (w1.heap.push _)[w1.heap.size]? = _;exact Array.getElem?_push_size
end Go.Proofs.YtlgnijhemfkflaaGreatDoor

namespace Go.Proofs.YtlgnijhemfkflaaGreatDoor
open Go.RowKit
set_option linter.unusedVariables false
set_option linter.unusedSimpArgs false
def R2 (w : World) (A P A' P' : Option Addr) (L c K d L' c' K' d' : Nat) (w' : World) : Prop := Below w.heap.size w w' ∧ Box w' w.heap.size (.slice A L c) (.slice P K d) 27 ∧ Box w' (w.heap.size + 1) (.slice A' L' c') (.slice P' K' d') 27
theorem R2.bel {w w1 : World} {A P A' P' : Option Addr} {L c K d L' c' K' d' : Nat} (h : R2 w A P A' P' L c K d L' c' K' d' w1) : Below w.heap.size w w1 := h.1
theorem R2.one {w w1 : World} {A P A' P' : Option Addr} {L c K d L' c' K' d' : Nat} (h : R2 w A P A' P' L c K d L' c' K' d' w1) : Box w1 w.heap.size (.slice A L c) (.slice P K d) 27 := h.2.1
theorem R2.two {w w1 : World} {A P A' P' : Option Addr} {L c K d L' c' K' d' : Nat} (h : R2 w A P A' P' L c K d L' c' K' d' w1) : Box w1 (w.heap.size + 1) (.slice A' L' c') (.slice P' K' d') 27 := h.2.2
theorem R2.keep {w w1 w2 : World} {A P A' P' : Option Addr} {L c K d L' c' K' d' : Nat} (h : R2 w A P A' P' L c K d L' c' K' d' w1) (b : Below w1.heap.size w1 w2) : R2 w A P A' P' L c K d L' c' K' d' w2 := ⟨below_then h.1 b, h.2.1.keep b, h.2.2.keep b⟩
theorem r2_new (w : World) (A P A' P' : Option Addr) (L c K d L' c' K' d' : Nat) : R2 w A P A' P' L c K d L' c' K' d' ((w.alloc (.cells #[.slice A L c, .slice P K d] 27)).alloc (.cells #[.slice A' L' c', .slice P' K' d'] 27)) :=
  ⟨((Below.refl _ _).alloc (Nat.le_refl _) _).alloc (by simp) _, (box_two w _ _ _ _ _ _).1, (box_two w _ _ _ _ _ _).2⟩
theorem pm_eq (m o : PM) : decide (m = o) = (decide (m.1 = o.1) && decide (m.2 = o.2)) := by
  obtain ⟨a, b⟩ := m;obtain ⟨c, d⟩ := o;rw [← Bool.decide_and];simp
end Go.Proofs.YtlgnijhemfkflaaGreatDoor

namespace Go.Proofs.YtlgnijhemfkflaaGreatDoor
open Go.RowKit
set_option linter.unusedVariables false
set_option linter.unusedSimpArgs false
theorem R2.drewN {w w1 : World} {A P A' P' : Option Addr} {L c K d L' c' K' d' : Nat} (h : R2 w A P A' P' L c K d L' c' K' d' w1) (i : Nat) : R2 w A P A' P' L c K d L' c' K' d' (w1.drewN i) := ⟨h.1.trans (Go.Joins.below_draws _ _ _), h.2.1, h.2.2⟩
theorem str_neq {a b : ByteArray} (h : a ≠ b) : (a.toList != b.toList) = true := by rw [bne, str_ne h]; rfl
theorem Byt.drewN {w : World} {v : Value} {l : List UInt8} (h : Byt w v l) (i : Nat) : Byt (w.drewN i) v l := h
set_option maxRecDepth 100000 in
set_option maxHeartbeats 4000000 in
theorem rsame_at (A P A' P' : Option Addr) (L c K d L' c' K' d' : Nat) (m o : PM) (w : World) (HM : Hid (IsMem w (.agg #[.slice A L c, .slice P K d]) m)) (HO : Hid (IsMem w (.agg #[.slice A' L' c', .slice P' K' d']) o)) :
    Calls Tryz.prog 31 #[.agg #[.slice A L c, .slice P K d], .agg #[.slice A' L' c', .slice P' K' d']] w fun e w' => e = .returned (.bool (decide (m = o))) ∧ Below w.heap.size w w' := by
  have R0 := Lib.hid (r2_new w A P A' P' L c K d L' c' K' d');have hk1 := HM.out.big.2;have hk2 := HO.out.big.2;unfold maxLen at hk1 hk2;have c1 := (HM.out.keep R0.out.bel).byt.conv;have c2 := (HO.out.keep R0.out.bel).byt.conv;have hz1 : w.heap.size < w.heap.size + 1 := by omega
  obtain ⟨R, hR⟩ : ∃ R, decide (m = o) = R := ⟨_, rfl⟩;rw [hR];have HR := Lib.hid hR;clear hR
  by_cases h1 : m.1 = o.1
  · rw [h1] at c1
    obtain ⟨s, hs⟩ : ∃ s, strB o.1 = s := ⟨_, rfl⟩;rw [hs] at c1 c2;have HR2 : Hid (R = decide (m.2 = o.2)) := by rw [← HR.out, pm_eq, decide_eq_true h1]; rfl
    clear hs
    by_cases hK : K = K'
    · subst hK
      have hKK : ((K : Int) != (K : Int)) = false := by simp
      clear h1;go_enter Tryz.func31, Tryz.ntmps31;go_wp2;clear c1 c2
      go_loopw [5] (fun i wr => ∃ j : Nat, j ≤ K ∧ i = .int .i64 (j : Int) ∧ Hid (m.2.take j = o.2.take j) ∧ R2 w A P A' P' L c K d L' c' K d' wr) (fun i _ => K - (intOf i).toNat)
      case atStart => exact ⟨0, Nat.zero_le _, rfl, by simp [Hid], R0.out⟩
      case round =>
        obtain ⟨j, hj, rfl, hall, hr2⟩ := hrel
        by_cases hlt : j < K
        · obtain ⟨g, o1, B, n, e, p, rfl, hg, hp, hc1, hc2, hby, hn, hKd⟩ := mem_patch HM.out hlt
          obtain ⟨g', o1', B', n', e', p', rfl, hg', hp', hc1', hc2', hby', hn', hKd'⟩ := mem_patch HO.out hlt;have d1 : wr.cell? ⟨g, o1 + j * 2, none⟩ = some (.int .i64 p.1) := (hr2.bel.cell (p := ⟨g, o1 + j * 2, none⟩) hg).trans hc1;have d2 : wr.cell? ⟨g, o1 + j * 2 + 1, none⟩ = some (.slice B n e) := (hr2.bel.cell (p := ⟨g, o1 + j * 2 + 1, none⟩) hg).trans hc2;have d3 : wr.cell? ⟨g', o1' + j * 2, none⟩ = some (.int .i64 p'.1) := (hr2.bel.cell (p := ⟨g', o1' + j * 2, none⟩) hg').trans hc1';have d4 : wr.cell? ⟨g', o1' + j * 2 + 1, none⟩ = some (.slice B' n' e') := (hr2.bel.cell (p := ⟨g', o1' + j * 2 + 1, none⟩) hg').trans hc2';obtain ⟨q0, q1, _, _⟩ := hr2.one.use;obtain ⟨q2, q3, _, _⟩ := hr2.two.use;have v1 := fun i => ((hby.keep hr2.bel).drewN i).conv
          have v2 := fun i => ((hby'.keep hr2.bel).drewN i).conv
          have HP := Lib.hid hp;have HP' := Lib.hid hp';have HRR := Lib.hid hr2;have hji : (j : Int) < (K : Int) := by omega
          obtain ⟨a1, ha1⟩ : ∃ a1, p.1 = a1 := ⟨_, rfl⟩;obtain ⟨a2, ha2⟩ : ∃ a2, p'.1 = a2 := ⟨_, rfl⟩;rw [ha1] at d1;rw [ha2] at d3;have HA1 := Lib.hid ha1;have HA2 := Lib.hid ha2;clear hby hby' hp hp' hc1 hc2 hc1' hc2' hr2 ha1 ha2
          by_cases ha : a1 = a2
          · subst ha
            have hab : (a1 != a1) = false := by simp
            by_cases hs : p.2 = p'.2
            · rw [hs] at v1
              generalize strB p'.2 = t at v1 v2;(go_wp2_with fail)
              go_quiet (fail)
              have HA : Hid (m.2.take (j + 1) = o.2.take (j + 1)) := take_eq_step hall.out HP.out HP'.out (by
                obtain ⟨x, y⟩ := p;obtain ⟨x', y'⟩ := p';have h1 := HA1.out;have h2 := HA2.out;simp only at h1 h2;simp only at hs
                rw [h1, h2, hs])
              have HF := fun i => HRR.out.drewN i
              have HFF := Lib.hid HF;clear HF v1 v2 d1 d2 d3 d4 q0 q1 q2 q3;go_wp2
              go_roundw
              case rel => exact ⟨j + 1, by omega, by go_num, HA.out, HFF.out _⟩
              case measure => simp [intOf]; omega
            · have HA : Hid (R = false) := by
                rw [HR2.out, decide_eq_false_iff_not];intro e;have x1 := HP.out;rw [e, HP'.out] at x1;injection x1 with x1
                rw [x1] at hs;exact hs rfl
              have hne : strB p.2 ≠ strB p'.2 := fun h => hs (strB_inj h)
              generalize strB p.2 = t1 at v1 hne;generalize strB p'.2 = t2 at v2 hne;have hne' := str_neq hne;have hne2 := str_ne hne;clear hs hne;(go_wp2_with fail)
              go_quiet (fail)
              have HF := fun i => HRR.out.drewN i
              have HFF := Lib.hid HF;clear HF v1 v2 d1 d2 d3 d4 q0 q1 q2 q3;go_wp2;go_ret;exact ⟨ret_bool HA.out.symm, (HFF.out _).bel⟩
          · have hab : (a1 != a2) = true := by simp [ha]
            have HA : Hid (R = false) := by
              rw [HR2.out, decide_eq_false_iff_not];intro e;have x1 := HP.out;rw [e, HP'.out] at x1;injection x1 with x1
              rw [x1] at HA2;exact ha (HA1.out.symm.trans HA2.out)
            clear ha;(go_wp2_with fail)
            go_quiet (fail)
            have HF := fun i => HRR.out.drewN i
            have HFF := Lib.hid HF;clear HF v1 v2 d1 d2 d3 d4 q0 q1 q2 q3;go_wp2;go_ret;exact ⟨ret_bool HA.out.symm, (HFF.out _).bel⟩
        · have hjk : j = K := by omega
          subst hjk;have HA : Hid (R = true) := by
            have x1 := HM.out.len2;have x2 := HO.out.len2;have x3 := hall.out;rw [List.take_of_length_le (by omega), List.take_of_length_le (by omega)] at x3;rw [HR2.out, decide_eq_true x3];rfl
          obtain ⟨q0, q1, _, _⟩ := hr2.one.use;have HRR := Lib.hid hr2;clear hr2;go_wp2;go_ret;exact ⟨ret_bool HA.out.symm, HRR.out.bel⟩
    · have HA : Hid (R = false) := by
        rw [HR2.out, decide_eq_false_iff_not];intro e;have x1 := HM.out.len2;have x2 := HO.out.len2;rw [e] at x1;omega
      have hKK : ((K : Int) != (K' : Int)) = true := by simp; omega
      clear h1 hK;go_enter Tryz.func31, Tryz.ntmps31;go_wp2;go_ret;exact ⟨ret_bool HA.out.symm, R0.out.bel⟩
  · have HA : Hid (R = false) := by rw [← HR.out, pm_eq, decide_eq_false h1]; rfl
    have hne : strB m.1 ≠ strB o.1 := fun h => h1 (strB_inj h)
    generalize strB m.1 = t1 at c1 hne;generalize strB o.1 = t2 at c2 hne;have hne' := str_neq hne;have hne2 := str_ne hne;clear h1 hne;go_enter Tryz.func31, Tryz.ntmps31;go_wp2;go_ret;exact ⟨ret_bool HA.out.symm, R0.out.bel⟩
end Go.Proofs.YtlgnijhemfkflaaGreatDoor

namespace Go.Proofs.YtlgnijhemfkflaaGreatDoor
open Go.RowKit
set_option linter.unusedVariables false
set_option linter.unusedSimpArgs false
def sm : PM := newF 16
def sx : PM := storeF sm 8 258
theorem s1 : newC 16 = 0 := by decide +kernel
theorem s2 : sm.1.length = 16 ∧ sm.2.length = 0 ∧ sx.1.length = 16 ∧ sx.2.length = 1 := by decide +kernel
theorem s3 : cellC 16 8 = 0 ∧ cellC 16 9 = -9 ∧ cellC 16 4 = -23 := by decide +kernel
theorem s4 : fetchF sx 8 = 258 := by decide +kernel
theorem s5 : backC sx 0 = 0 ∧ backF sx 0 = sm := by decide +kernel
theorem s6 : codeF (okB 16 8 2) = 0 ∧ textF sx 8 2 = [2, 1] ∧ codeF (okB 16 8 1) = 0 ∧ byteF sx 8 = 2 := by decide +kernel
theorem s7 : rightB sx = true ∧ rightB ([1], []) = false ∧ decide (sm = sm) = true ∧ decide (sx = sm) = false := by decide +kernel
def At (b : Nat) (A P : Option Addr) (L c K d : Nat) (m : PM) (w : World) : Prop := Box w b (.slice A L c) (.slice P K d) 27 ∧ IsMem w (.agg #[.slice A L c, .slice P K d]) m
theorem At.keep {b : Nat} {A P : Option Addr} {L c K d : Nat} {m : PM} {w w' : World} (h : At b A P L c K d m w) (k : Below w.heap.size w w') : At b A P L c K d m w' := ⟨h.1.keep k, h.2.keep k⟩
theorem At.mem {b : Nat} {A P : Option Addr} {L c K d : Nat} {m : PM} {w : World} (h : At b A P L c K d m w) : IsMem w (.agg #[.slice A L c, .slice P K d]) m := h.2
theorem At.use {b : Nat} {A P : Option Addr} {L c K d : Nat} {m : PM} {w : World} (h : At b A P L c K d m w) : w.cell? ⟨b, 0, none⟩ = some (.slice A L c) ∧ w.cell? ⟨b, 1, none⟩ = some (.slice P K d) := ⟨h.1.use.1, h.1.use.2.1⟩
theorem At.lt {b : Nat} {A P : Option Addr} {L c K d : Nat} {m : PM} {w : World} (h : At b A P L c K d m w) : b < w.heap.size := h.1.lt
theorem at_new {A P : Option Addr} {L c K d : Nat} {m : PM} {w : World} (h : IsMem w (.agg #[.slice A L c, .slice P K d]) m) : At w.heap.size A P L c K d m (w.alloc (.cells #[.slice A L c, .slice P K d] 27)) := ⟨box_new _ _ _ _, h.keep ((Below.refl _ _).alloc (Nat.le_refl _) _)⟩
theorem al_one (w : World) (o : Obj) : Below w.heap.size w (w.alloc o) := (Below.refl _ _).alloc (Nat.le_refl _) o
end Go.Proofs.YtlgnijhemfkflaaGreatDoor

namespace Go.Proofs.YtlgnijhemfkflaaGreatDoor
open Go.RowKit
set_option linter.unusedVariables false
set_option linter.unusedSimpArgs false
def Z3 (w : World) (b1 b2 b3 : Nat) (A P A2 P2 A3 P3 : Option Addr) (L c K d L2 c2 K2 d2 L3 c3 K3 d3 : Nat) (m x y : PM) (w' : World) : Prop := Below w.heap.size w w' ∧ At b1 A P L c K d m w' ∧ At b2 A2 P2 L2 c2 K2 d2 x w' ∧ At b3 A3 P3 L3 c3 K3 d3 y w'
section
variable {w w1 w2 : World} {b1 b2 b3 : Nat} {A P A2 P2 A3 P3 : Option Addr} {L c K d L2 c2 K2 d2 L3 c3 K3 d3 : Nat} {m x y : PM}
theorem Z3.keep (h : Z3 w b1 b2 b3 A P A2 P2 A3 P3 L c K d L2 c2 K2 d2 L3 c3 K3 d3 m x y w1) (b : Below w1.heap.size w1 w2) : Z3 w b1 b2 b3 A P A2 P2 A3 P3 L c K d L2 c2 K2 d2 L3 c3 K3 d3 m x y w2 := ⟨below_then h.1 b, h.2.1.keep b, h.2.2.1.keep b, h.2.2.2.keep b⟩
theorem Z3.drew (h : Z3 w b1 b2 b3 A P A2 P2 A3 P3 L c K d L2 c2 K2 d2 L3 c3 K3 d3 m x y w1) : Z3 w b1 b2 b3 A P A2 P2 A3 P3 L c K d L2 c2 K2 d2 L3 c3 K3 d3 m x y w1.drew := ⟨h.1.drew, h.2.1, h.2.2.1, h.2.2.2⟩
theorem Z3.bel (h : Z3 w b1 b2 b3 A P A2 P2 A3 P3 L c K d L2 c2 K2 d2 L3 c3 K3 d3 m x y w1) : Below w.heap.size w w1 := h.1
theorem Z3.one (h : Z3 w b1 b2 b3 A P A2 P2 A3 P3 L c K d L2 c2 K2 d2 L3 c3 K3 d3 m x y w1) : IsMem w1 (.agg #[.slice A L c, .slice P K d]) m := h.2.1.mem
theorem Z3.two (h : Z3 w b1 b2 b3 A P A2 P2 A3 P3 L c K d L2 c2 K2 d2 L3 c3 K3 d3 m x y w1) : IsMem w1 (.agg #[.slice A2 L2 c2, .slice P2 K2 d2]) x := h.2.2.1.mem
theorem Z3.three (h : Z3 w b1 b2 b3 A P A2 P2 A3 P3 L c K d L2 c2 K2 d2 L3 c3 K3 d3 m x y w1) : IsMem w1 (.agg #[.slice A3 L3 c3, .slice P3 K3 d3]) y := h.2.2.2.mem
theorem Z3.free (h : Z3 w b1 b2 b3 A P A2 P2 A3 P3 L c K d L2 c2 K2 d2 L3 c3 K3 d3 m x y w1) : IsMem w1 (.agg #[.slice A L c, .slice none 0 0]) (m.1, []) := mem_mk h.2.1.mem.byt (pats_nil _)
end
end Go.Proofs.YtlgnijhemfkflaaGreatDoor
