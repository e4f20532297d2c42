/- CellBack: what is put is got, and the other way round; two cells have the same bytes just if they are the same; for every two cells and every eight bytes, with no condition. -/
import Derived.Test.YtadnajoefhajgaaBackA
import Derived.ProofKit
import Derived.OpenShut
import Derived.ShutString
import Derived.ChangeOld
import Derived.Below
namespace Go.Proofs.Ytadnajoefhajgaa.cellBack
open Go.ChangeShapes Go.WideShapes Go.ChangeAt Go.RowKit
set_option linter.unusedVariables false

theorem own : ownKnob Try.prog.godebug = none := by kernel_rfl
theorem laidOut : laidOutB Try.prog = true := by kernel_rfl
theorem cells40 : Try.prog.cellsOf 40 = 8 := by kernel_rfl
theorem cells5 : Try.prog.cellsOf 5 = 1 := by kernel_rfl

theorem back_same (n m : Int) (hn : cellR n) (hm : cellR m) : ((strOf (un n)).toList == (strOf (un m)).toList) = (n == m) := by
  rw [Bool.eq_iff_iff]
  simp only [beq_iff_eq]
  constructor
  · intro h
    rw [ByteArray.toList_eq, ByteArray.toList_eq] at h
    have e : strOf (un n) = strOf (un m) := by
      cases hA : strOf (un n) with | mk A => cases hB : strOf (un m) with | mk B =>
      rw [hA, hB] at h
      cases A; cases B
      simp at h
      rw [h]
    have k := str_inj _ _ (un_lt n) (un_lt m) e
    rw [← un_back hn, ← un_back hm, k]
  · intro h; rw [h]

theorem walk (n m : Int) (x0 x1 x2 x3 x4 x5 x6 x7 : Nat) (w : World) (hn : cellR n) (hm : cellR m) (h0 : x0 < 256) (h1 : x1 < 256) (h2 : x2 < 256) (h3 : x3 < 256) (h4 : x4 < 256) (h5 : x5 < 256) (h6 : x6 < 256) (h7 : x7 < 256) :
    Calls Try.prog 6 #[.int .i64 n, .int .i64 m, .agg #[.int .u8 (x0 : Int), .int .u8 (x1 : Int), .int .u8 (x2 : Int), .int .u8 (x3 : Int), .int .u8 (x4 : Int), .int .u8 (x5 : Int), .int .u8 (x6 : Int), .int .u8 (x7 : Int)]] w fun e w' => e = .returned (.bool true) ∧ Below w.heap.size w w' := by
  have hN := eight_lt x0 x1 x2 x3 x4 x5 x6 x7 h0 h1 h2 h3 h4 h5 h6 h7
  obtain ⟨e0, e1, e2, e3, e4, e5, e6, e7⟩ := bytes_eight x0 x1 x2 x3 x4 x5 x6 x7 h0 h1 h2 h3 h4 h5 h6 h7
  have c := back_core n m (wrap64 (eight x0 x1 x2 x3 x4 x5 x6 x7 : Int)) (eight x0 x1 x2 x3 x4 x5 x6 x7) w (Lib.hid fun w => put_has n w) (Lib.hid fun w => put_has m w)
    (Lib.hid fun w => by have p := put_has (wrap64 (eight x0 x1 x2 x3 x4 x5 x6 x7 : Int)) w; rw [un_wrap_nat _ hN] at p; exact p) (back_same n m hn hm)
    (Lib.hid fun g w h => by have p := get_has (un n) g w h (un_lt n); rw [un_back hn] at p; exact p)
    (Lib.hid fun g w h => get_hasA _ g w h hN)
  rw [e0, e1, e2, e3, e4, e5, e6, e7] at c
  exact c

theorem arr8 (cs : Array Value) (h : cs.size = 8) : ∃ c0 c1 c2 c3 c4 c5 c6 c7, cs = #[c0, c1, c2, c3, c4, c5, c6, c7] := by
  match cs, h with
  | ⟨[c0, c1, c2, c3, c4, c5, c6, c7]⟩, _ => exact ⟨c0, c1, c2, c3, c4, c5, c6, c7, rfl⟩

theorem byte_of {H : Type} {enc : TypeId × Value → H} {W : World} {base : Nat} {sp : Nat → Bool} {held : Bool} {fuel : Nat} {c : Value} {o : Option (DataW H × List MemPlace)}
    (h : DataW.trod enc Try.prog W base sp held fuel 5 [c] = o) (ho : o.isSome = true) : ∃ k : Nat, k < 256 ∧ c = .int .u8 (k : Int) := by
  obtain ⟨x, rfl⟩ := Option.isSome_iff_exists.1 ho
  obtain ⟨n, hn, _, hw⟩ := DataW.trod_int Try.underlying5 h
  simp at hn
  subst hn
  simp only [Lit.wf, IntKind.min, IntKind.max, IntKind.signed, IntKind.bits, Bool.and_eq_true] at hw
  refine ⟨n.toNat, ?_, ?_⟩
  · simp at hw; omega
  · simp at hw; congr 1; omega

set_option maxRecDepth 100000 in
theorem lifted (os : Os) (started : os.Started) (H : Type) (enc : TypeId × Value → H) :
    ReturnsInHanded {} Try.checked os 6 .any (Rows.cellBackSpec.pre6 enc Try.prog Try.f6 Rows.cellBackRow.domain false) (Rows.cellBackSpec.post enc Try.prog Try.f6 false true false false) := by
  refine returnsInHanded_of_change (C := Try.checked) own started (by kernel_rfl) Try.func6
    (ChangeSpec.witness6 (enc := enc) (C := Try.checked) false ⟨#[], #[.int .i64 0, .int .i64 0, .agg #[.int .u8 0, .int .u8 0, .int .u8 0, .int .u8 0, .int .u8 0, .int .u8 0, .int .u8 0, .int .u8 0]], []⟩ 8 (by kernel_rfl) (by kernel_rfl) (by kernel_rfl) (by kernel_rfl)) ?_
  intro W base args ds gs before hval0 hW hcnd _
  have hval : ∀ (j : Nat) t v, Try.f6.params[j]? = some t → args[j]? = some v → Value.okWide Try.prog W .any base t v := hval0
  have hW' := hW
  obtain ⟨p, q, hA0, hV, rfl, hfz, hnd⟩ := hW
  have hA : DataW.TrodAll enc Try.prog W 0 (fun _ => true) true Try.f6.params.toList args.toList ds p := hA0
  rw [Try.params6] at hA hval
  obtain ⟨v0, vs0, d0, ds0, p0, q0, hargs, rfl, rfl, h0, r0⟩ := trodAll_cons hA
  obtain ⟨v1, vs1, d1, ds1, p1, q1, rfl, rfl, rfl, h1, r1⟩ := trodAll_cons r0
  obtain ⟨v2, vs2, d2, ds2, p2, q2, rfl, rfl, rfl, h2, r2⟩ := trodAll_cons r1
  obtain ⟨rfl, rfl, rfl⟩ := trodAll_nil r2
  obtain rfl : args = #[v0, v1, v2] := by cases args; simp_all
  obtain ⟨rfl, rfl⟩ := trodVars_none hV
  obtain ⟨a0, rfl, rfl, rfl, w0⟩ := open_int Try.underlying3 (hval 0 3 v0 rfl rfl) h0
  obtain ⟨a1, rfl, rfl, rfl, w1⟩ := open_int Try.underlying3 (hval 1 3 v1 rfl rfl) h1
  have k2 := h2
  have lt2 : ∀ x ∈ p2, x.block < W.heap.size := by obtain ⟨m, hm⟩ := k2; exact DataW.trod_lt m _ _ _ hm
  have hv2 := hval 2 40 v2 rfl rfl
  simp only [Value.okWide, Try.underlying40] at hv2
  obtain ⟨cs, rfl, hsz, _⟩ := hv2
  obtain ⟨c0, c1, c2, c3, c4, c5, c6, c7, rfl⟩ := arr8 cs (hsz.trans cells40)
  obtain ⟨x0, x1, x2, x3, x4, x5, x6, x7, g0, g1, g2, g3, g4, g5, g6, g7, rfl, rfl, rfl, rfl, rfl, rfl, rfl, rfl⟩ : ∃ x0 x1 x2 x3 x4 x5 x6 x7 : Nat, x0 < 256 ∧ x1 < 256 ∧ x2 < 256 ∧ x3 < 256 ∧ x4 < 256 ∧ x5 < 256 ∧ x6 < 256 ∧ x7 < 256 ∧ c0 = .int .u8 (x0 : Int) ∧ c1 = .int .u8 (x1 : Int) ∧ c2 = .int .u8 (x2 : Int) ∧ c3 = .int .u8 (x3 : Int) ∧ c4 = .int .u8 (x4 : Int) ∧ c5 = .int .u8 (x5 : Int) ∧ c6 = .int .u8 (x6 : Int) ∧ c7 = .int .u8 (x7 : Int) := by
    obtain ⟨fuel, hf⟩ := h2
    obtain ⟨ys, mm, _, _, _, hl, hc⟩ := DataW.trod_array Try.underlying40 hf
    rw [cells5] at hc
    obtain ⟨x0, g0, e0⟩ := byte_of (c := c0) (hc 0 (by omega)) (by simp [hl])
    obtain ⟨x1, g1, e1⟩ := byte_of (c := c1) (hc 1 (by omega)) (by simp [hl])
    obtain ⟨x2, g2, e2⟩ := byte_of (c := c2) (hc 2 (by omega)) (by simp [hl])
    obtain ⟨x3, g3, e3⟩ := byte_of (c := c3) (hc 3 (by omega)) (by simp [hl])
    obtain ⟨x4, g4, e4⟩ := byte_of (c := c4) (hc 4 (by omega)) (by simp [hl])
    obtain ⟨x5, g5, e5⟩ := byte_of (c := c5) (hc 5 (by omega)) (by simp [hl])
    obtain ⟨x6, g6, e6⟩ := byte_of (c := c6) (hc 6 (by omega)) (by simp [hl])
    obtain ⟨x7, g7, e7⟩ := byte_of (c := c7) (hc 7 (by omega)) (by simp [hl])
    exact ⟨x0, x1, x2, x3, x4, x5, x6, x7, g0, g1, g2, g3, g4, g5, g6, g7, e0, e1, e2, e3, e4, e5, e6, e7⟩
  clear hA0 hval0
  refine (walk a0 a1 x0 x1 x2 x3 x4 x5 x6 x7 W (cellR_of w0) (cellR_of w1) g0 g1 g2 g3 g4 g5 g6 g7).mono fun e W' ⟨he, bel⟩ => ?_
  subst he
  exact ⟨_, rfl, _, _, _, [], _, [], hW', trodAll_mk1 (shut_bool Try.underlying4 _), (trodAll_cons_mk (shut_int Try.underlying3 w0) (trodAll_cons_mk (shut_int Try.underlying3 w1) (trodAll_cons_mk (Below.trod laidOut (by kernel_rfl) (of_decide_eq_true (by kernel_rfl)) k2 bel lt2) trodAll_mk0))), rfl, bel.frame _, fun h => by cases h⟩

theorem over : Rows.cellBackRow.holds Try.pinned (OpenSpec.ofChange Rows.cellBackSpec) :=
  OpenClaim.holds_of_wide 6 Try.f6 rfl rfl rfl rfl rfl rfl rfl ⟨rfl, rfl, rfl, rfl, rfl⟩ rfl rfl rfl rfl rfl (by kernel_rfl) Try.func6 (by kernel_rfl)
    (of_decide_eq_true (by kernel_rfl)) (by unfold Func.isWrapper; first | (rw [if_pos (by decide +kernel)]; kernel_rfl) | (rw [if_neg (by decide +kernel)]; exact ⟨rfl, rfl⟩))
    (fun os started H enc _ => lifted os started H enc)

theorem proved : Rows.CellBackSaid := over
#print axioms proved
end Go.Proofs.Ytadnajoefhajgaa.cellBack
