/- AluTells: what is reckoned of one cell, or of two, by any name of 20 signs at most, and by each name that there is, is as the document says. No condition. -/
import Derived.Test.YtncljldoioplaaaAluTellsA
import Derived.ProofKit
import Derived.Deep.Light
import Derived.OpenShut
import Derived.ShutString
import Derived.ChangeOld
import Derived.ChangeMaps5
import Derived.Below
namespace Go.Proofs.Ytncljldoioplaaa.aluTells
open Go.ChangeShapes Go.WideShapes Go.ChangeAt Go.RowKit Go.ChangeMaps
set_option linter.unusedVariables false

theorem own : ownKnob Try.prog.godebug = none := by kernel_rfl
theorem info : (Try.prog.info? 9).map (fun i => (i.zero, i.size, i.bytes)) = some (some (.string ByteArray.empty), 1, 16) := by kernel_rfl

set_option maxRecDepth 100000 in
set_option maxHeartbeats 8000000 in
theorem core (s : ByteArray) (a b : Int) (w : World) (hs : (s.size : Int) ≤ 20)
    (C1 : Hid (∀ (t : ByteArray), ∃ n z, (∀ w, Calls Try.prog 13 #[.string t, .int .i64 a] w fun e w' => e = .returned (.tuple #[.int .i64 n, .bool z]) ∧ Below w.heap.size w w') ∧ (∀ w, Calls Try.prog 14 #[.string t, .int .i64 a] w fun e w' => e = .returned (.tuple #[.int .i64 n, .bool z]) ∧ w = w')))
    (C2 : Hid (∀ (t : ByteArray), ∃ n z c, (-9223372036854775808 ≤ c ∧ c ≤ 9223372036854775807) ∧ (∀ w, Calls Try.prog 16 #[.string t, .int .i64 a, .int .i64 b] w fun e w' => e = .returned (.tuple #[.int .i64 n, .bool z, .int .i64 c]) ∧ Below w.heap.size w w') ∧ (∀ w, Calls Try.prog 17 #[.string t, .int .i64 a, .int .i64 b] w fun e w' => e = .returned (.tuple #[.int .i64 n, .bool z, .int .i64 c]) ∧ w = w'))) :
    Calls Try.prog 3 #[.string s, .int .i64 a, .int .i64 b] w fun e w' => e = .returned (.bool true) ∧ Below w.heap.size w w' := by
  obtain ⟨i0, hi, hz0, hz1, hz2⟩ := info_parts info
  have HI := Lib.hid hi
  clear hi
  go_enter Try.func3, Try.ntmps3
  go_wp2_with fail
  refine (shown_any _).mono ?_
  rintro e w1 ⟨rfl, b1⟩
  go_wp2_with (first
    | (go_at_call 12; ((with_reducible refine (names1_any _).mono ?_); rintro e w2 ⟨rfl, rfl⟩))
    | (at_builtin; refine wpList_append_own _ rfl _ _ 23 rfl w1.heap.size 9 i0 (.string ByteArray.empty) 1 16 Try.underlying23 HI.out hz0 hz1 hz2 rfl (by decide) _ _ _ rfl ((made1 w1).alloc _) ⟨w1.heap.size + 1, 0, none⟩ 1 1 [.string s] rfl rfl (by simpa using cell_one (w1.alloc (.cells #[.string ⟨#[78, 69, 71, 65, 84, 69]⟩, .string ⟨#[65, 66, 83]⟩, .string ⟨#[73, 78, 86, 69, 82, 84]⟩, .string ⟨#[49, 43]⟩, .string ⟨#[49, 45]⟩, .string ⟨#[50, 42]⟩, .string ⟨#[50, 47]⟩, .string ⟨#[48, 61]⟩, .string ⟨#[48, 60]⟩, .string ⟨#[48, 60, 62]⟩, .string ⟨#[48, 62]⟩, .string ⟨#[67, 69, 76, 76, 83]⟩, .string ⟨#[67, 69, 76, 76, 43]⟩, .string ⟨#[65, 76, 73, 71, 78, 69, 68]⟩] 9)) s) (fun x hx => by simp at hx; subst hx; rfl) (by unfold maxLen; omega) (by omega) (by simp; omega) ?_; intro v' w3 hown hgrow hnil))
  have b3 := grown_below b1 hgrow
  obtain ⟨g, cap, rfl, hrow⟩ := StrRow.of hown rfl (m := 15) rfl
  clear hown hgrow hnil b1
  go_wp2
  go_loopw [9] (fun i wr => ∃ k : Nat, k ≤ 15 ∧ i = .int .i64 (k : Int) ∧ StrRow g (names1 ++ [s]) wr ∧ Below w.heap.size w wr) (fun i _ => 15 - (intOf i).toNat)
  case atStart => exact ⟨0, by omega, rfl, hrow, b3⟩
  case round =>
    obtain ⟨k, hk, rfl, hR, hb⟩ := hrel
    clear hrow b3
    by_cases hlt : k < 15
    · obtain ⟨t, ht⟩ : ∃ t, (names1 ++ [s])[k]? = some t := ⟨_, List.getElem?_eq_getElem (show k < (names1 ++ [s]).length from hlt)⟩
      have hc := hR.2 k t ht
      obtain ⟨n, z, ca, cb⟩ := C1.out t
      have CA := Lib.hid ca
      have CB := Lib.hid cb
      have HR := Lib.hid hR
      have HB := Lib.hid hb
      clear ht ca cb hR hb
      go_wp2_with (first
        | (go_at_call 13; ((with_reducible refine (CA.out _).mono ?_); rintro e w5 ⟨rfl, b5⟩; have hc5 := (b5.cell (p := ⟨g, k, none⟩) HR.out.1).trans hc))
        | (go_at_call 14; ((with_reducible refine (CB.out _).mono ?_); rintro e w6 ⟨rfl, rfl⟩)))
      go_roundw
      case rel => exact ⟨k + 1, by omega, by go_num, HR.out.keep b5, below_then HB.out b5⟩
      case measure => simp [intOf]; omega
    · have he : k = 15 := by omega
      subst he
      clear hlt hk hR C1
      rw [show ((15 : Nat) : Int) = 15 from rfl]
      go_wp2_with (first
        | (go_at_call 15; ((with_reducible refine (names2_any _).mono ?_); rintro e w2 ⟨rfl, rfl⟩))
        | (at_builtin; refine wpList_append_own _ rfl _ _ 23 rfl wr.heap.size 9 i0 (.string ByteArray.empty) 1 16 Try.underlying23 HI.out hz0 hz1 hz2 rfl (by decide) _ _ _ rfl ((made2 wr).alloc _) ⟨wr.heap.size + 1, 0, none⟩ 1 1 [.string s] rfl rfl (by simpa using cell_one (wr.alloc (.cells #[.string ⟨#[43]⟩, .string ⟨#[45]⟩, .string ⟨#[42]⟩, .string ⟨#[47]⟩, .string ⟨#[77, 79, 68]⟩, .string ⟨#[65, 78, 68]⟩, .string ⟨#[79, 82]⟩, .string ⟨#[88, 79, 82]⟩, .string ⟨#[76, 83, 72, 73, 70, 84]⟩, .string ⟨#[82, 83, 72, 73, 70, 84]⟩, .string ⟨#[77, 73, 78]⟩, .string ⟨#[77, 65, 88]⟩, .string ⟨#[61]⟩, .string ⟨#[60, 62]⟩, .string ⟨#[60]⟩, .string ⟨#[62]⟩, .string ⟨#[60, 61]⟩, .string ⟨#[62, 61]⟩, .string ⟨#[85, 60]⟩, .string ⟨#[85, 62]⟩] 9)) s) (fun x hx => by simp at hx; subst hx; rfl) (by unfold maxLen; omega) (by omega) (by simp; omega) ?_; intro v' w3 hown hgrow hnil))
      have b3 := grown_below hb hgrow
      obtain ⟨g2, cap2, rfl, hrow⟩ := StrRow.of hown rfl (m := 21) rfl
      clear hown hgrow hnil hb
      go_wp2
      go_loopw [15] (fun i wr => ∃ k : Nat, k ≤ 21 ∧ i = .int .i64 (k : Int) ∧ StrRow g2 (names2 ++ [s]) wr ∧ Below w.heap.size w wr) (fun i _ => 21 - (intOf i).toNat)
      case atStart => exact ⟨0, by omega, rfl, hrow, b3⟩
      case round =>
        obtain ⟨k, hk, rfl, hR, hb⟩ := hrel
        clear hrow b3
        by_cases hlt : k < 21
        · obtain ⟨t, ht⟩ : ∃ t, (names2 ++ [s])[k]? = some t := ⟨_, List.getElem?_eq_getElem (show k < (names2 ++ [s]).length from hlt)⟩
          have hc := hR.2 k t ht
          obtain ⟨n, z, c, ⟨hc0, hc1⟩, ca, cb⟩ := C2.out t
          have CA := Lib.hid ca
          have CB := Lib.hid cb
          have HR := Lib.hid hR
          have HB := Lib.hid hb
          clear ht ca cb hR hb
          go_wp2_with (first
            | (go_at_call 16; ((with_reducible refine (CA.out _).mono ?_); rintro e w5 ⟨rfl, b5⟩; have hc5 := (b5.cell (p := ⟨g2, k, none⟩) HR.out.1).trans hc))
            | (go_at_call 17; ((with_reducible refine (CB.out _).mono ?_); rintro e w6 ⟨rfl, rfl⟩)))
          go_roundw
          case rel => exact ⟨k + 1, by omega, by go_num, HR.out.keep b5, below_then HB.out b5⟩
          case measure => simp [intOf]; omega
        · have he : k = 21 := by omega
          subst he
          clear hlt hk hR C2
          rw [show ((21 : Nat) : Int) = 21 from rfl]
          go_wp2
          go_ret
          exact ⟨rfl, hb⟩

set_option maxRecDepth 100000 in
set_option maxHeartbeats 4000000 in
theorem long (s : ByteArray) (a b : Int) (w : World) (hs : (20 : Int) < (s.size : Int)) :
    Calls Try.prog 3 #[.string s, .int .i64 a, .int .i64 b] w fun e w' => e = .returned (.bool true) ∧ Below w.heap.size w w' := by
  go_enter Try.func3, Try.ntmps3
  go_wp2_with fail
  refine (shown_any _).mono ?_
  rintro e w1 ⟨rfl, b1⟩
  go_wp2
  go_ret
  exact ⟨rfl, b1⟩

theorem walk (s : ByteArray) (a b : Int) (w : World) (ha : cellR a) (hb : cellR b) :
    Calls Try.prog 3 #[.string s, .int .i64 a, .int .i64 b] w fun e w' => e = .returned (.bool true) ∧ Below w.heap.size w w' := by
  by_cases h : (20 : Int) < (s.size : Int)
  · exact long s a b w h
  · exact core s a b w (by omega) (Lib.hid fun t => ⟨_, _, fun w => one_any t a w ha, fun w => rone_any t a w ha⟩)
      (Lib.hid fun t => ⟨_, _, _, divC_cell t.data.toList b, fun w => two_any t a b w ha hb, fun w => rtwo_any t a b w ha hb⟩)

set_option maxRecDepth 100000 in
theorem lifted (os : Os) (started : os.Started) (H : Type) (enc : TypeId × Value → H) :
    ReturnsInHanded {} Try.checked os 3 .any (Rows.aluTellsSpec.pre6 enc Try.prog Try.f3 Rows.aluTellsRow.domain false) (Rows.aluTellsSpec.post enc Try.prog Try.f3 false true false false) := by
  refine returnsInHanded_of_change (C := Try.checked) own started (by kernel_rfl) Try.func3
    (ChangeSpec.witness6 (enc := enc) (C := Try.checked) false ⟨#[], #[.string ByteArray.empty, .int .i64 0, .int .i64 0], []⟩ 8 (by kernel_rfl) (by kernel_rfl) (by kernel_rfl) (by kernel_rfl)) ?_
  intro W base args ds gs before hval0 hW hcnd _
  have hval : ∀ (j : Nat) t v, Try.f3.params[j]? = some t → args[j]? = some v → Value.okWide Try.prog W .any base t v := hval0
  have hW' := hW
  obtain ⟨p, q, hA0, hV, rfl, hfz, hnd⟩ := hW
  have hA : DataW.TrodAll enc Try.prog W 0 (fun _ => true) true Try.f3.params.toList args.toList ds p := hA0
  rw [Try.params3] at hA hval
  obtain ⟨v0, vs0, d0, ds0, p0, q0, hargs, rfl, rfl, h0, r0⟩ := trodAll_cons hA
  obtain ⟨v1, vs1, d1, ds1, p1, q1, rfl, rfl, rfl, h1, r1⟩ := trodAll_cons r0
  obtain ⟨v2, vs2, d2, ds2, p2, q2, rfl, rfl, rfl, h2, r2⟩ := trodAll_cons r1
  obtain ⟨rfl, rfl, rfl⟩ := trodAll_nil r2
  obtain rfl : args = #[v0, v1, v2] := by cases args; simp_all
  obtain ⟨rfl, rfl⟩ := trodVars_none hV
  obtain ⟨s, rfl, rfl, rfl, w0⟩ := open_string Try.underlying9 (hval 0 9 v0 rfl rfl) h0
  obtain ⟨a1, rfl, rfl, rfl, w1⟩ := open_int Try.underlying3 (hval 1 3 v1 rfl rfl) h1
  obtain ⟨a2, rfl, rfl, rfl, w2⟩ := open_int Try.underlying3 (hval 2 3 v2 rfl rfl) h2
  clear hA0 hval0
  refine (walk s a1 a2 W (cellR_of w1) (cellR_of w2)).mono fun e W' ⟨he, bel⟩ => ?_
  subst he
  exact ⟨_, rfl, _, _, _, [], _, [], hW', trodAll_mk1 (shut_bool Try.underlying4 _), (trodAll_cons_mk (shut_string Try.underlying9 w0) (trodAll_cons_mk (shut_int Try.underlying3 w1) (trodAll_cons_mk (shut_int Try.underlying3 w2) trodAll_mk0))), rfl, bel.frame _, fun h => by cases h⟩

theorem over : Rows.aluTellsRow.holds Try.pinned (OpenSpec.ofChange Rows.aluTellsSpec) :=
  OpenClaim.holds_of_wide 3 Try.f3 rfl rfl rfl rfl rfl rfl rfl ⟨rfl, rfl, rfl, rfl, rfl⟩ rfl rfl rfl rfl rfl (by kernel_rfl) Try.func3 (by kernel_rfl)
    (of_decide_eq_true (by kernel_rfl)) (by unfold Func.isWrapper; first | (rw [if_pos (by decide +kernel)]; kernel_rfl) | (rw [if_neg (by decide +kernel)]; exact ⟨rfl, rfl⟩))
    (fun os started H enc _ => lifted os started H enc)

theorem proved : Rows.AluTellsSaid := over
#print axioms proved
end Go.Proofs.Ytncljldoioplaaa.aluTells
