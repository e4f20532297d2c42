/- A contract of strings.Cut at one blank. -/
import Derived.Test.YtjeapcpicagobaaStkB
import Derived.Laws.Externs
namespace Go.Proofs.Ytjeapcpicagobaa
open Go.RowKit
set_option linter.unusedVariables false
set_option linter.unusedSimpArgs false

/-- s is a, a blank, and b. -/
structure Cuts (s a b : ByteArray) (i : Nat) : Prop where
  find : firstIdx s 32 = (i : Int)
  left : s.extract 0 i = a
  right : s.extract (i + 1) s.size = b
  lt : i < s.size
  most : s.size ≤ 100
  not : ([32] == s.toList) = false

theorem ixb_run (s : ByteArray) (i : Nat) (h : firstIdx s 32 = (i : Int)) (w : World) :
    (callFunc 36 #[.string s, .int .u8 32]).run Try.prog w = .ok (.value (.int .i64 (i : Int))) w := by
  rw [run_callFunc_extern Try.func36 (by kernel_rfl) (by kernel_rfl) (by kernel_rfl) (e := Extern.BytealgIndexByte.indexByte) (by kernel_rfl)]
  rw [run_indexByte_string, show (32 : Int).toNat.toUInt8 = 32 from rfl, h]
  rfl

set_option maxRecDepth 100000 in
theorem ixb_any (s : ByteArray) (i : Nat) (w : World) (h : Hid (firstIdx s 32 = (i : Int))) :
    Calls Try.prog 32 #[.string s, .int .u8 32] w fun e w' => e = .returned (.int .i64 (i : Int)) ∧ w = w' := by
  have hr := ixb_run s i h.out
  go_enter Try.func32, Try.ntmps32
  go_wp2
  go_ret
  exact ⟨rfl, rfl⟩

set_option maxRecDepth 100000 in
set_option maxHeartbeats 1000000 in
theorem index_any (s : ByteArray) (i : Nat) (w : World) (h : Hid (firstIdx s 32 = (i : Int))) (hn : ([32] == s.toList) = false) :
    Calls Try.prog 31 #[.string s, .string ⟨#[32]⟩] w fun e w' => e = .returned (.int .i64 (i : Int)) ∧ w = w' := by
  go_enter Try.func31, Try.ntmps31
  go_wp2_with (go_at_call 32; ((refine (ixb_any s i _ h).mono ?_); rintro e w' ⟨rfl, rfl⟩))
  go_ret
  exact ⟨rfl, rfl⟩

set_option maxRecDepth 100000 in
set_option maxHeartbeats 1000000 in
theorem cut_lite (s a b : ByteArray) (i : Nat) (w : World) (h : Hid (Cuts s a b i)) :
    Calls Try.prog 30 #[.string s, .string ⟨#[32]⟩] w fun e w' => e = .returned (.tuple #[.string a, .string b, .bool true]) ∧ Below w.heap.size w w' := by
  have h1 := h.out.left
  have h2 := h.out.right
  have h3 := h.out.not
  have h4 : (i : Int) < (s.size : Int) := by have := h.out.lt; omega
  have h5 : (i : Int) + 1 ≤ (s.size : Int) := by omega
  have h6 : (s.size : Int) ≤ 100 := by have := h.out.most; omega
  have h7 : IntKind.i64.wrap ((i : Int) + 1) = (i : Int) + 1 := IntWalk.i64_in _ (by omega)
  have h8 : ((i : Int) + 1).toNat = i + 1 := by omega
  have h9 : (0 : Int) ≤ (i : Int) + 1 := by omega
  have H3 := Lib.hid h3
  have HF := Lib.hid h.out.find
  clear h3
  go_enter Try.func30, Try.ntmps30
  go_wp2_with (go_at_call 31; ((with_reducible refine (index_any s i _ HF H3.out).mono ?_); rintro e w' ⟨rfl, rfl⟩))
  go_quiet (fail)
  go_wp2
  go_ret3
  exact ⟨rfl, Go.Joins.below_draws _ _ _⟩

set_option maxRecDepth 100000 in
theorem cut_any (s a b : ByteArray) (i : Nat) (w : World) (h : Hid (Cuts s a b i)) :
    Calls Try.prog 28 #[.string s, .string ⟨#[32]⟩] w fun e w' => e = .returned (.tuple #[.string a, .string b, .bool true]) ∧ Below w.heap.size w w' := by
  go_enter Try.func28, Try.ntmps28
  go_wp2_with (go_at_call 30; ((with_reducible refine (cut_lite s a b i _ h).mono ?_); rintro e w' ⟨rfl, bb⟩))
  go_ret3
  exact ⟨rfl, bb⟩
end Go.Proofs.Ytjeapcpicagobaa
