/- AluSwaps: sums, products, and what goes bit by bit hang on no order; all bits turned, and is or; a number shifted up is it times two so often. No condition. -/
import Derived.Test.YtncljldoioplaaaAluMathB
import Derived.ProofKit
import Derived.Deep.Light
import Derived.Deep.RegionWith
import Derived.Deep.RegionHeld3
import Derived.OpenShut
import Derived.ShutString
import Derived.ChangeOld
import Derived.Below
namespace Go.Proofs.Ytncljldoioplaaa.aluSwaps
open Go.ChangeShapes Go.WideShapes Go.ChangeAt Go.RowKit
set_option linter.unusedVariables false

theorem own : ownKnob Try.prog.godebug = none := by kernel_rfl

theorem byteR_of {n : Int} (h : (Lit.int .u8 n).wf = true) : 0 ≤ n ∧ n ≤ 255 := by
  simp only [Lit.wf, IntKind.min, IntKind.max, IntKind.signed, IntKind.bits, Bool.and_eq_true, decide_eq_true_eq] at h
  simp at h
  omega

/-- The names whose order of cells doesn't matter, as the statement lists them; a cell doubled so often. -/
def names : List ByteArray := [⟨#[43]⟩, ⟨#[42]⟩, ⟨#[65, 78, 68]⟩, ⟨#[79, 82]⟩, ⟨#[88, 79, 82]⟩, ⟨#[77, 73, 78]⟩, ⟨#[77, 65, 88]⟩, ⟨#[61]⟩, ⟨#[60, 62]⟩]
def nm (k : Nat) : ByteArray := names.getD k ⟨#[]⟩
def dbl (a : Int) (t : Nat) : Int := wrap64 (a * ((2 ^ t : Nat) : Int))

theorem swap_two (a b : Int) (k : Nat) (hk : k < 9) : twoF (nm k).data.toList b a = twoF (nm k).data.toList a b := by
  obtain rfl | rfl | rfl | rfl | rfl | rfl | rfl | rfl | rfl : k = 0 ∨ k = 1 ∨ k = 2 ∨ k = 3 ∨ k = 4 ∨ k = 5 ∨ k = 6 ∨ k = 7 ∨ k = 8 := by omega
  · show some (wrap64 (b + a)) = some (wrap64 (a + b)); rw [Int.add_comm]
  · show some (wrap64 (b * a)) = some (wrap64 (a * b)); rw [Int.mul_comm]
  · show some (bits .and .i64 b a) = some (bits .and .i64 a b); rw [bits_and, bits_and, BitVec.and_comm]
  · show some (bits .or .i64 b a) = some (bits .or .i64 a b); rw [bits_or, bits_or, BitVec.or_comm]
  · show some (bits .xor .i64 b a) = some (bits .xor .i64 a b); rw [bits_xor, bits_xor, BitVec.xor_comm]
  · show some (if a < b then a else b) = some (if b < a then b else a); congr 1; split <;> split <;> omega
  · show some (if b < a then a else b) = some (if a < b then b else a); congr 1; split <;> split <;> omega
  · show some (yes (b == a)) = some (yes (a == b)); rw [Bool.beq_comm]
  · show some (yes (b != a)) = some (yes (a != b)); unfold bne; rw [Bool.beq_comm]
theorem dbl_cell (a : Int) (t : Nat) : cellR (dbl a t) := cellR_wrap _
theorem dbl_next (a : Int) (t : Nat) : wrap64 (dbl a t + dbl a t) = dbl a (t + 1) := by
  unfold dbl
  rw [Nat.pow_succ, Int.natCast_mul, ← Int.mul_assoc]
  generalize a * ((2 ^ t : Nat) : Int) = z
  unfold wrap64
  omega
theorem dbl_shl (a : Int) (t : Nat) (h : t ≤ 69) : shl a t = dbl a t := by
  have hu : un (t : Int) = t := by have := un_mod (t : Int); omega
  unfold shl dbl
  rw [hu]
  split
  · rw [Int.natCast_pow]; rfl
  · have e : (2 ^ t : Nat) = 18446744073709551616 * 2 ^ (t - 64) := by
      rw [show (18446744073709551616 : Nat) = 2 ^ 64 by decide, ← Nat.pow_add]
      congr 1
      omega
    rw [e, Int.natCast_mul, ← Int.mul_assoc, Int.mul_comm a, Int.mul_assoc]
    generalize a * ((2 ^ (t - 64) : Nat) : Int) = z
    unfold wrap64
    omega
theorem bv_inv (a : Int) (ha : cellR a) : bv (-1 - a) = ~~~ bv a := by
  rw [← inv_eq a ha, bits_xor, bv_toInt, show bv (-1) = BitVec.allOnes 64 by decide, BitVec.allOnes_xor]
theorem inv_toInt (x : BitVec 64) : -1 - x.toInt = (~~~ x).toInt := by
  have h := inv_eq x.toInt (by rw [← wrap_toNat]; exact cellR_wrap _)
  rw [bits_xor, bv_toInt, show bv (-1) = BitVec.allOnes 64 by decide, BitVec.allOnes_xor] at h
  exact h.symm
theorem de_morgan (a b : Int) (ha : cellR a) (hb : cellR b) : -1 - bits .and .i64 (-1 - a) (-1 - b) = bits .or .i64 a b := by
  rw [bits_and, bits_or, inv_toInt, bv_inv a ha, bv_inv b hb]
  congr 1
  ext i
  simp

/-- The block of the names, in a world. -/
def Row (g : Nat) (w : World) : Prop := g < w.heap.size ∧ ∀ k, k < 9 → w.cell? ⟨g, k, none⟩ = some (.string (nm k))
theorem row_new (w1 : World) : Row w1.heap.size (w1.alloc (.cells #[.string ⟨#[43]⟩, .string ⟨#[42]⟩, .string ⟨#[65, 78, 68]⟩, .string ⟨#[79, 82]⟩, .string ⟨#[88, 79, 82]⟩, .string ⟨#[77, 73, 78]⟩, .string ⟨#[77, 65, 88]⟩, .string ⟨#[61]⟩, .string ⟨#[60, 62]⟩] 9)) := by
  refine ⟨by simp, fun k hk => ?_⟩
  rw [World.cell?_alloc_new]
  obtain rfl | rfl | rfl | rfl | rfl | rfl | rfl | rfl | rfl : k = 0 ∨ k = 1 ∨ k = 2 ∨ k = 3 ∨ k = 4 ∨ k = 5 ∨ k = 6 ∨ k = 7 ∨ k = 8 := by omega
  all_goals rfl
theorem Row.keep {g : Nat} {w w' : World} (h : Row g w) (b : Below w.heap.size w w') : Row g w' :=
  ⟨Nat.lt_of_lt_of_le h.1 b.size, fun k hk => (b.cell (p := ⟨g, k, none⟩) h.1).trans (h.2 k hk)⟩
theorem keepS {w wc w5 : World} {g k : Nat} {s : ByteArray} (h : wc.cell? ⟨g, k, none⟩ = some (.string s) ∧ Row g wc ∧ Below w.heap.size w wc) (b : Below wc.heap.size wc w5) :
    w5.cell? ⟨g, k, none⟩ = some (.string s) ∧ Row g w5 ∧ Below w.heap.size w w5 :=
  ⟨(b.cell (p := ⟨g, k, none⟩) h.2.1.1).trans h.1, h.2.1.keep b, below_then h.2.2 b⟩
theorem startS {w wc : World} {g k : Nat} {s : ByteArray} (h : wc.cell? ⟨g, k, none⟩ = some (.string s)) (r : Row g wc) (b : Below w.heap.size w wc) :
    wc.drew.cell? ⟨g, k, none⟩ = some (.string s) ∧ Row g wc.drew ∧ Below w.heap.size w wc.drew :=
  ⟨h, r, b.drew⟩

set_option maxRecDepth 100000 in
set_option maxHeartbeats 8000000 in
theorem core (a b B ia ib an O d nb : Int) (M : Nat) (w : World) (hB0 : 0 ≤ B) (hB : B ≤ 255) (hM : M ≤ 69) (hk : B.tmod 70 = (M : Int))
    (CS : Hid (∀ k, k < 9 → ∃ v, (∀ w, Calls Try.prog 23 #[.string (nm k), .int .i64 a, .int .i64 b] w fun e w' => e = .returned (.int .i64 v) ∧ Below w.heap.size w w') ∧ (∀ w, Calls Try.prog 23 #[.string (nm k), .int .i64 b, .int .i64 a] w fun e w' => e = .returned (.int .i64 v) ∧ Below w.heap.size w w')))
    (CD : Hid (∀ t w, Calls Try.prog 22 #[.string ⟨#[50, 42]⟩, .int .i64 (dbl a t)] w fun e w' => e = .returned (.int .i64 (dbl a (t + 1))) ∧ Below w.heap.size w w'))
    (C0 : Hid (a = dbl a 0))
    (C1 : Hid (∀ w, Calls Try.prog 22 #[.string ⟨#[73, 78, 86, 69, 82, 84]⟩, .int .i64 a] w fun e w' => e = .returned (.int .i64 ia) ∧ Below w.heap.size w w'))
    (C2 : Hid (∀ w, Calls Try.prog 22 #[.string ⟨#[73, 78, 86, 69, 82, 84]⟩, .int .i64 b] w fun e w' => e = .returned (.int .i64 ib) ∧ Below w.heap.size w w'))
    (C3 : Hid (∀ w, Calls Try.prog 23 #[.string ⟨#[65, 78, 68]⟩, .int .i64 ia, .int .i64 ib] w fun e w' => e = .returned (.int .i64 an) ∧ Below w.heap.size w w'))
    (C4 : Hid (∀ w, Calls Try.prog 22 #[.string ⟨#[73, 78, 86, 69, 82, 84]⟩, .int .i64 an] w fun e w' => e = .returned (.int .i64 O) ∧ Below w.heap.size w w'))
    (C5 : Hid (∀ w, Calls Try.prog 23 #[.string ⟨#[79, 82]⟩, .int .i64 a, .int .i64 b] w fun e w' => e = .returned (.int .i64 O) ∧ Below w.heap.size w w'))
    (C6 : Hid (∀ w, Calls Try.prog 23 #[.string ⟨#[76, 83, 72, 73, 70, 84]⟩, .int .i64 a, .int .i64 (M : Int)] w fun e w' => e = .returned (.int .i64 (dbl a M)) ∧ Below w.heap.size w w'))
    (C7 : Hid (∀ w, Calls Try.prog 23 #[.string ⟨#[45]⟩, .int .i64 a, .int .i64 b] w fun e w' => e = .returned (.int .i64 d) ∧ Below w.heap.size w w'))
    (C8 : Hid (∀ w, Calls Try.prog 22 #[.string ⟨#[78, 69, 71, 65, 84, 69]⟩, .int .i64 b] w fun e w' => e = .returned (.int .i64 nb) ∧ Below w.heap.size w w'))
    (C9 : Hid (∀ w, Calls Try.prog 23 #[.string ⟨#[43]⟩, .int .i64 a, .int .i64 nb] w fun e w' => e = .returned (.int .i64 d) ∧ Below w.heap.size w w')) :
    Calls Try.prog 10 #[.int .i64 a, .int .i64 b, .int .u8 B] w fun e w' => e = .returned (.bool true) ∧ Below w.heap.size w w' := by
  go_enter Try.func10, Try.ntmps10
  go_wp2_with fail
  refine (shown_any _).mono ?_
  rintro e w1 ⟨rfl, b1⟩
  go_wp2
  have R0 := row_new w1
  have c0 := b1.alloc b1.size (.cells #[.string ⟨#[43]⟩, .string ⟨#[42]⟩, .string ⟨#[65, 78, 68]⟩, .string ⟨#[79, 82]⟩, .string ⟨#[88, 79, 82]⟩, .string ⟨#[77, 73, 78]⟩, .string ⟨#[77, 65, 88]⟩, .string ⟨#[61]⟩, .string ⟨#[60, 62]⟩] 9)
  go_loopw [9] (fun i wr => ∃ k : Nat, k ≤ 9 ∧ i = .int .i64 (k : Int) ∧ Row w1.heap.size wr ∧ Below w.heap.size w wr) (fun i _ => 9 - (intOf i).toNat)
  case atStart => exact ⟨0, by omega, rfl, R0, c0⟩
  case round =>
    obtain ⟨k, hk9, rfl, hR, hb⟩ := hrel
    clear R0 c0
    by_cases hlt : k < 9
    · obtain ⟨v, ca, cb⟩ := CS.out k hlt
      have hc := hR.2 k hlt
      obtain ⟨s, hs⟩ : ∃ s, nm k = s := ⟨_, rfl⟩
      rw [hs] at hc ca cb
      have CA := Lib.hid ca
      have CB := Lib.hid cb
      have HR := Lib.hid hR
      have HB := Lib.hid hb
      clear hs ca cb hR hb
      go_wp2_with fail
      refine wp_region_noPanic ?_
      go_region_held (fun w' => w'.cell? ⟨w1.heap.size, k, none⟩ = some (.string s) ∧ Row w1.heap.size w' ∧ Below w.heap.size w w') (first | assumption | exact startS hc HR.out HB.out)
        (first | (go_at_call 23; ((with_reducible first | refine (CA.out _).mono ?_ | refine (CB.out _).mono ?_); rintro e w5 ⟨rfl, b5⟩; have s5 := keepS (by assumption) b5)))
      all_goals (refine NoPanic.normal ?_)
      all_goals go_wp2
      exact ⟨⟨k + 1, by omega, by go_num, s5.2.1, s5.2.2⟩, by simp [intOf]; omega⟩
    · have he : k = 9 := by omega
      subst he
      clear hlt hk9 hR CS b1
      rw [show ((9 : Nat) : Int) = 9 from rfl]
      go_wp2
      go_loopw [10, 11] (fun x i wr => ∃ t : Nat, t ≤ M ∧ x = .int .i64 (dbl a t) ∧ i = .int .i64 (t : Int) ∧ Below w.heap.size w wr) (fun _ i _ => M - (intOf i).toNat)
      case atStart => exact ⟨0, by omega, by rw [← C0.out], rfl, hb⟩
      case round =>
        obtain ⟨t, ht, rfl, rfl, b1⟩ := hrel
        clear hb
        by_cases hlt : t < M
        · go_wp2_with (go_at_call 22; ((with_reducible refine (CD.out t _).mono ?_); rintro e w3 ⟨rfl, b3⟩))
          go_roundw
          case rel => exact ⟨t + 1, by omega, rfl, by go_num, below_then b1 b3⟩
          case measure => simp [intOf]; omega
        · have he : t = M := by omega
          subst he
          clear hlt ht
          go_wp2_with ((first | go_at_call 22 | go_at_call 23); ((with_reducible first | refine (C1.out _).mono ?_ | refine (C2.out _).mono ?_ | refine (C3.out _).mono ?_ | refine (C4.out _).mono ?_ | refine (C5.out _).mono ?_ | refine (C6.out _).mono ?_ | refine (C7.out _).mono ?_ | refine (C8.out _).mono ?_ | refine (C9.out _).mono ?_); rintro e w2 ⟨rfl, b2⟩; replace b1 := below_then b1 b2; clear b2))
          go_ret
          exact ⟨rfl, b1⟩

theorem walk (a b B : Int) (w : World) (ha : cellR a) (hb : cellR b) (hB : 0 ≤ B ∧ B ≤ 255) :
    Calls Try.prog 10 #[.int .i64 a, .int .i64 b, .int .u8 B] w fun e w' => e = .returned (.bool true) ∧ Below w.heap.size w w' := by
  obtain ⟨n, rfl⟩ : ∃ n : Nat, B = n := ⟨B.toNat, by omega⟩
  have hM : ((n : Int)).tmod 70 = ((n % 70 : Nat) : Int) := rfl
  have hi : ∀ x, cellR x → cellR (-1 - x) := by intro x hx; unfold cellR at *; omega
  refine core a b n (-1 - a) (-1 - b) (bits .and .i64 (-1 - a) (-1 - b)) (bits .or .i64 a b) (wrap64 (a - b)) (wrap64 (-b)) (n % 70) w hB.1 hB.2 (by omega) hM
    (Lib.hid fun k hk => ⟨(twoF (nm k).data.toList a b).getD 0, fun w => ltwo_any (nm k) a b w ha hb, fun w => ?_⟩) (Lib.hid fun t w => ?_) (Lib.hid ?_)
    (Lib.hid fun w => o_INVERT a w ha) (Lib.hid fun w => o_INVERT b w hb) (Lib.hid fun w => t_AND _ _ w (hi a ha) (hi b hb)) (Lib.hid fun w => ?_) (Lib.hid fun w => t_OR a b w ha hb) (Lib.hid fun w => ?_) (Lib.hid fun w => t_Minus a b w ha hb) (Lib.hid fun w => o_NEGATE b w hb) (Lib.hid fun w => ?_)
  · have c := ltwo_any (nm k) b a w hb ha
    rw [swap_two a b k hk] at c
    exact c
  · have c := o_2Star (dbl a t) w (dbl_cell a t)
    rw [dbl_next] at c
    exact c
  · unfold dbl; simp only [Nat.pow_zero, Int.natCast_one, Int.mul_one]; exact (wrap_in ha).symm
  · have c := o_INVERT _ w (bits_cell_and (-1 - a) (-1 - b))
    rw [de_morgan a b ha hb] at c
    exact c
  · have c := t_LSHIFT a ((n % 70 : Nat) : Int) w ha (by unfold cellR; omega)
    rw [dbl_shl a _ (by omega)] at c
    exact c
  · have c := t_Plus a (wrap64 (-b)) w ha (cellR_wrap _)
    rw [sub_eq] at c
    exact c

set_option maxRecDepth 100000 in
theorem lifted (os : Os) (started : os.Started) (H : Type) (enc : TypeId × Value → H) :
    ReturnsInHanded {} Try.checked os 10 .any (Rows.aluSwapsSpec.pre6 enc Try.prog Try.f10 Rows.aluSwapsRow.domain false) (Rows.aluSwapsSpec.post enc Try.prog Try.f10 false true false false) := by
  refine returnsInHanded_of_change (C := Try.checked) own started (by kernel_rfl) Try.func10
    (ChangeSpec.witness6 (enc := enc) (C := Try.checked) false ⟨#[], #[.int .i64 0, .int .i64 0, .int .u8 0], []⟩ 8 (by kernel_rfl) (by kernel_rfl) (by kernel_rfl) (by kernel_rfl)) ?_
  intro W base args ds gs before hval0 hW hcnd _
  have hval : ∀ (j : Nat) t v, Try.f10.params[j]? = some t → args[j]? = some v → Value.okWide Try.prog W .any base t v := hval0
  have hW' := hW
  obtain ⟨p, q, hA0, hV, rfl, hfz, hnd⟩ := hW
  have hA : DataW.TrodAll enc Try.prog W 0 (fun _ => true) true Try.f10.params.toList args.toList ds p := hA0
  rw [Try.params10] at hA hval
  obtain ⟨v0, vs0, d0, ds0, p0, q0, hargs, rfl, rfl, h0, r0⟩ := trodAll_cons hA
  obtain ⟨v1, vs1, d1, ds1, p1, q1, rfl, rfl, rfl, h1, r1⟩ := trodAll_cons r0
  obtain ⟨v2, vs2, d2, ds2, p2, q2, rfl, rfl, rfl, h2, r2⟩ := trodAll_cons r1
  obtain ⟨rfl, rfl, rfl⟩ := trodAll_nil r2
  obtain rfl : args = #[v0, v1, v2] := by cases args; simp_all
  obtain ⟨rfl, rfl⟩ := trodVars_none hV
  obtain ⟨a0, rfl, rfl, rfl, w0⟩ := open_int Try.underlying3 (hval 0 3 v0 rfl rfl) h0
  obtain ⟨a1, rfl, rfl, rfl, w1⟩ := open_int Try.underlying3 (hval 1 3 v1 rfl rfl) h1
  obtain ⟨a2, rfl, rfl, rfl, w2⟩ := open_int Try.underlying5 (hval 2 5 v2 rfl rfl) h2
  clear hA0 hval0
  refine (walk a0 a1 a2 W (cellR_of w0) (cellR_of w1) (byteR_of w2)).mono fun e W' ⟨he, bel⟩ => ?_
  subst he
  exact ⟨_, rfl, _, _, _, [], _, [], hW', trodAll_mk1 (shut_bool Try.underlying4 _), (trodAll_cons_mk (shut_int Try.underlying3 w0) (trodAll_cons_mk (shut_int Try.underlying3 w1) (trodAll_cons_mk (shut_int Try.underlying5 w2) trodAll_mk0))), rfl, bel.frame _, fun h => by cases h⟩

theorem over : Rows.aluSwapsRow.holds Try.pinned (OpenSpec.ofChange Rows.aluSwapsSpec) :=
  OpenClaim.holds_of_wide 10 Try.f10 rfl rfl rfl rfl rfl rfl rfl ⟨rfl, rfl, rfl, rfl, rfl⟩ rfl rfl rfl rfl rfl (by kernel_rfl) Try.func10 (by kernel_rfl)
    (of_decide_eq_true (by kernel_rfl)) (by unfold Func.isWrapper; first | (rw [if_pos (by decide +kernel)]; kernel_rfl) | (rw [if_neg (by decide +kernel)]; exact ⟨rfl, rfl⟩))
    (fun os started H enc _ => lifted os started H enc)

theorem proved : Rows.AluSwapsSaid := over
#print axioms proved
end Go.Proofs.Ytncljldoioplaaa.aluSwaps
