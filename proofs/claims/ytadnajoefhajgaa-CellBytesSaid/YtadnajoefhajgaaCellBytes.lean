/- CellBytes: cells as bytes, and which is below another one without a sign, are as the document says; for every two cells and every list of bytes, with no condition. -/
import Derived.Test.YtadnajoefhajgaaBytesW
import Derived.WalkKit
import Derived.ProofKit
import Derived.OpenShut
import Derived.ShutString
import Derived.ChangeOld
import Derived.Below
namespace Go.Proofs.Ytadnajoefhajgaa.cellBytes
open Go.ChangeShapes Go.WideShapes Go.ChangeAt Go.RowKit
open Go.ChangeMaps (open_string shut_string)
set_option linter.unusedVariables false

theorem own : ownKnob Try.prog.godebug = none := by kernel_rfl
theorem laidOut : laidOutB Try.prog = true := by kernel_rfl

def IsRow (k : IntKind) (w : World) (a : Option Addr) (len cap : Nat) (zs : List Int) : Prop :=
  (a = none ∧ len = 0 ∧ cap = 0 ∧ zs = []) ∨
  ∃ x, a = some x ∧ len ≤ cap ∧ cap ≤ maxLen ∧ zs.length = cap ∧ (∀ i, i < zs.length → w.cell? (x.add i) = some (.int k (zs.getD i 0))) ∧ ∀ n ∈ zs, (Lit.int k n).wf = true

theorem cell_lt {w : World} {x : Addr} {v : Value} (h : w.cell? (x.add 0) = some v) : x.block < w.heap.size := by
  have hb : (x.add 0).block = x.block := add_block x 0
  unfold World.cell? at h
  rw [hb] at h
  rcases Nat.lt_or_ge x.block w.heap.size with hl | hl
  · exact hl
  · rw [Array.getElem?_eq_none hl] at h; simp at h
theorem plain_at {w : World} {x : Addr} {v : Value} (h : w.cell? (x.add 0) = some v) : ∃ b off, x = ⟨b, off, none⟩ := by
  obtain ⟨b, off, sp⟩ := x
  cases sp with
  | none => exact ⟨b, off, rfl⟩
  | some s =>
    unfold World.cell? Addr.add at h
    simp at h
    split at h <;> simp_all
theorem plain_add (b off j : Nat) : (⟨b, off, none⟩ : Addr).add j = ⟨b, off + j, none⟩ := by unfold Addr.add; split <;> simp_all
theorem byte_num {n : Int} (hw : (Lit.int .u8 n).wf = true) : ∃ k : Nat, k < 256 ∧ n = (k : Int) := by
  simp only [Lit.wf, IntKind.min, IntKind.max, IntKind.signed, IntKind.bits, Bool.and_eq_true] at hw
  refine ⟨n.toNat, ?_, ?_⟩ <;> simp at hw <;> omega

theorem walk (a0 : Int) (a1 : Int) (a2 : Option Addr) (len2 cap2 : Nat) (z2 : List Int) (w : World) (w0 : (Lit.int .i64 a0).wf = true) (w1 : (Lit.int .i64 a1).wf = true) (w2 : IsRow .u8 w a2 len2 cap2 z2) :
    Calls Try.prog 3 #[.int .i64 a0, .int .i64 a1, .slice a2 len2 cap2] w fun e w' => e = .returned (.bool true) ∧ Below w.heap.size w w' := by
  by_cases hl : 20 < len2
  · exact bytes_long a0 a1 a2 len2 cap2 w hl
  · by_cases h8 : len2 = 8
    · subst h8
      rcases w2 with ⟨_, h0, _⟩ | ⟨x, rfl, hle, _, hz, hc, hwf⟩
      · cases h0
      · obtain ⟨b, off, rfl⟩ : ∃ b off, x = ⟨b, off, none⟩ := plain_at (hc 0 (by omega))
        have lt : b < w.heap.size := cell_lt (hc 0 (by omega))
        have hcell : ∀ i, i < 8 → w.cell? ⟨b, off + i, none⟩ = some (.int .u8 (z2.getD i 0)) := fun i hi => by
          have := hc i (by omega)
          rw [plain_add] at this
          exact this
        have hnum : ∀ i, i < 8 → ∃ k : Nat, k < 256 ∧ z2.getD i 0 = (k : Int) := fun i hi => by
          have hi' : i < z2.length := by omega
          have hm : z2.getD i 0 ∈ z2 := by
            rw [show z2.getD i 0 = z2[i] by simp [List.getD, List.getElem?_eq_getElem hi']]
            exact List.getElem_mem _
          exact byte_num (hwf _ hm)
        obtain ⟨x0, g0, e0⟩ := hnum 0 (by omega)
        obtain ⟨x1, g1, e1⟩ := hnum 1 (by omega)
        obtain ⟨x2, g2, e2⟩ := hnum 2 (by omega)
        obtain ⟨x3, g3, e3⟩ := hnum 3 (by omega)
        obtain ⟨x4, g4, e4⟩ := hnum 4 (by omega)
        obtain ⟨x5, g5, e5⟩ := hnum 5 (by omega)
        obtain ⟨x6, g6, e6⟩ := hnum 6 (by omega)
        obtain ⟨x7, g7, e7⟩ := hnum 7 (by omega)
        have k0 : w.cell? ⟨b, off + 0, none⟩ = some (.int .u8 (x0 : Int)) := by rw [← e0]; exact hcell 0 (by omega)
        have k1 : w.cell? ⟨b, off + 1, none⟩ = some (.int .u8 (x1 : Int)) := by rw [← e1]; exact hcell 1 (by omega)
        have k2 : w.cell? ⟨b, off + 2, none⟩ = some (.int .u8 (x2 : Int)) := by rw [← e2]; exact hcell 2 (by omega)
        have k3 : w.cell? ⟨b, off + 3, none⟩ = some (.int .u8 (x3 : Int)) := by rw [← e3]; exact hcell 3 (by omega)
        have k4 : w.cell? ⟨b, off + 4, none⟩ = some (.int .u8 (x4 : Int)) := by rw [← e4]; exact hcell 4 (by omega)
        have k5 : w.cell? ⟨b, off + 5, none⟩ = some (.int .u8 (x5 : Int)) := by rw [← e5]; exact hcell 5 (by omega)
        have k6 : w.cell? ⟨b, off + 6, none⟩ = some (.int .u8 (x6 : Int)) := by rw [← e6]; exact hcell 6 (by omega)
        have k7 : w.cell? ⟨b, off + 7, none⟩ = some (.int .u8 (x7 : Int)) := by rw [← e7]; exact hcell 7 (by omega)
        refine bytes_core a0 a1 (wrap64 (eight x0 x1 x2 x3 x4 x5 x6 x7 : Int)) 0 _ 8 cap2 w (by omega) (Lib.hid fun w1 hb => ?_) (Lib.hid fun w1 hb => ?_)
        · refine get_yes ⟨b, off, none⟩ cap2 x0 x1 x2 x3 x4 x5 x6 x7 w1 (Nat.lt_of_lt_of_le lt hb.size) g0 g1 g2 g3 g4 g5 g6 g7 (Lib.hid ?_)
          intro j v hv
          rw [plain_add, hb.cell (p := ⟨b, off + j, none⟩) lt]
          match j, hv with
          | 0, hv => simp at hv; rw [← hv]; exact k0
          | 1, hv => simp at hv; rw [← hv]; exact k1
          | 2, hv => simp at hv; rw [← hv]; exact k2
          | 3, hv => simp at hv; rw [← hv]; exact k3
          | 4, hv => simp at hv; rw [← hv]; exact k4
          | 5, hv => simp at hv; rw [← hv]; exact k5
          | 6, hv => simp at hv; rw [← hv]; exact k6
          | 7, hv => simp at hv; rw [← hv]; exact k7
          | j + 8, hv => simp at hv
        · exact rget_yes b off cap2 x0 x1 x2 x3 x4 x5 x6 x7 w1 g0 g1 g2 g3 g4 g5 g6 g7 ((hb.cell (p := ⟨b, off + 0, none⟩) lt).trans k0) ((hb.cell (p := ⟨b, off + 1, none⟩) lt).trans k1) ((hb.cell (p := ⟨b, off + 2, none⟩) lt).trans k2) ((hb.cell (p := ⟨b, off + 3, none⟩) lt).trans k3) ((hb.cell (p := ⟨b, off + 4, none⟩) lt).trans k4) ((hb.cell (p := ⟨b, off + 5, none⟩) lt).trans k5) ((hb.cell (p := ⟨b, off + 6, none⟩) lt).trans k6) ((hb.cell (p := ⟨b, off + 7, none⟩) lt).trans k7)
    · exact bytes_core a0 a1 0 (-24) a2 len2 cap2 w (by omega) (Lib.hid fun w1 _ => (get_no a2 len2 cap2 w1 h8).mono fun e w' ⟨he, hw⟩ => ⟨he, hw ▸ Below.refl _ _⟩) (Lib.hid fun w1 _ => rget_no a2 len2 cap2 w1 h8)

set_option maxRecDepth 100000 in
theorem lifted (os : Os) (started : os.Started) (H : Type) (enc : TypeId × Value → H) :
    ReturnsInHanded {} Try.checked os 3 .any (Rows.cellBytesSpec.pre6 enc Try.prog Try.f3 Rows.cellBytesRow.domain false) (Rows.cellBytesSpec.post enc Try.prog Try.f3 false true false false) := by
  refine returnsInHanded_of_change (C := Try.checked) own started (by kernel_rfl) Try.func3
    (ChangeSpec.witness6 (enc := enc) (C := Try.checked) false ⟨#[], #[.int .i64 0, .int .i64 0, .slice none 0 0], []⟩ 8 (by kernel_rfl) (by kernel_rfl) (by kernel_rfl) (by kernel_rfl)) ?_
  intro W base args ds gs before hval0 hW hcnd _
  have hval : ∀ (j : Nat) t v, Try.f3.params[j]? = some t → args[j]? = some v → Value.okWide Try.prog W .any base t v := hval0
  have hW' := hW
  obtain ⟨p, q, hA0, hV, rfl, hfz, hnd⟩ := hW
  have hA : DataW.TrodAll enc Try.prog W 0 (fun _ => true) true Try.f3.params.toList args.toList ds p := hA0
  rw [Try.params3] at hA hval
  obtain ⟨v0, vs0, d0, ds0, p0, q0, hargs, rfl, rfl, h0, r0⟩ := trodAll_cons hA
  obtain ⟨v1, vs1, d1, ds1, p1, q1, rfl, rfl, rfl, h1, r1⟩ := trodAll_cons r0
  obtain ⟨v2, vs2, d2, ds2, p2, q2, rfl, rfl, rfl, h2, r2⟩ := trodAll_cons r1
  obtain ⟨rfl, rfl, rfl⟩ := trodAll_nil r2
  obtain rfl : args = #[v0, v1, v2] := by cases args; simp_all
  obtain ⟨rfl, rfl⟩ := trodVars_none hV
  obtain ⟨a0, rfl, rfl, rfl, w0⟩ := open_int Try.underlying3 (hval 0 3 v0 rfl rfl) h0
  obtain ⟨a1, rfl, rfl, rfl, w1⟩ := open_int Try.underlying3 (hval 1 3 v1 rfl rfl) h1
  obtain ⟨a2, len2, cap2, rfl⟩ := okWide_slice Try.underlying22 (hval 2 22 v2 rfl rfl)
  have k2 := h2
  have lt2 : ∀ x ∈ p2, x.block < W.heap.size := by obtain ⟨m, hm⟩ := k2; exact DataW.trod_lt m _ _ _ hm
  obtain ⟨z2, w2⟩ : ∃ zs, IsRow .u8 W a2 len2 cap2 zs := by
    obtain ⟨fuel, hf⟩ := h2
    rcases open_ints Try.underlying22 Try.underlying5 (by kernel_rfl) hf with ⟨hcs, _⟩ | ⟨x, l, c, zs, hcs, _, hl, hm, hz, _, hcell, hwz⟩
    · simp [Value.cells] at hcs
      obtain ⟨rfl, rfl, rfl⟩ := hcs
      exact ⟨[], .inl ⟨rfl, rfl, rfl, rfl⟩⟩
    · simp [Value.cells] at hcs
      obtain ⟨rfl, rfl, rfl⟩ := hcs
      exact ⟨zs, .inr ⟨_, rfl, hl, hm, by simpa using hz, hcell, hwz⟩⟩
  clear hA0 hval0
  refine (walk a0 a1 a2 len2 cap2 z2 W w0 w1 w2).mono fun e W' ⟨he, bel⟩ => ?_
  subst he
  exact ⟨_, rfl, _, _, _, [], _, [], hW', trodAll_mk1 (shut_bool Try.underlying4 _), (trodAll_cons_mk (shut_int Try.underlying3 w0) (trodAll_cons_mk (shut_int Try.underlying3 w1) (trodAll_cons_mk (Below.trod laidOut (by kernel_rfl) (of_decide_eq_true (by kernel_rfl)) k2 bel lt2) trodAll_mk0))), rfl, bel.frame _, fun h => by cases h⟩

theorem over : Rows.cellBytesRow.holds Try.pinned (OpenSpec.ofChange Rows.cellBytesSpec) :=
  OpenClaim.holds_of_wide 3 Try.f3 rfl rfl rfl rfl rfl rfl rfl ⟨rfl, rfl, rfl, rfl, rfl⟩ rfl rfl rfl rfl rfl (by kernel_rfl) Try.func3 (by kernel_rfl)
    (of_decide_eq_true (by kernel_rfl)) (by unfold Func.isWrapper; first | (rw [if_pos (by decide +kernel)]; kernel_rfl) | (rw [if_neg (by decide +kernel)]; exact ⟨rfl, rfl⟩))
    (fun os started H enc _ => lifted os started H enc)

theorem proved : Rows.CellBytesSaid := over
#print axioms proved
end Go.Proofs.Ytadnajoefhajgaa.cellBytes
