/- A contract of the document's takes, at each name. -/
import Derived.Test.YtjeapcpicagobaaStkSpec
import Derived.Test.YtjeapcpicagobaaStkG
namespace Go.Proofs.Ytjeapcpicagobaa
open Go.RowKit
set_option linter.unusedVariables false
set_option linter.unusedSimpArgs false

set_option maxRecDepth 100000 in
theorem takes_DUP (A : Option Addr) (n c : Nat) (w : World) :
    Calls Try.prog 21 #[.string ⟨#[68, 85, 80]⟩, .slice A n c] w fun e w' => e = .returned (.int .i64 1) ∧ w = w' := by
  go_enter Try.func21, Try.ntmps21
  go_wp2
  go_ret
  exact ⟨rfl, rfl⟩
set_option maxRecDepth 100000 in
theorem takes_DROP (A : Option Addr) (n c : Nat) (w : World) :
    Calls Try.prog 21 #[.string ⟨#[68, 82, 79, 80]⟩, .slice A n c] w fun e w' => e = .returned (.int .i64 1) ∧ w = w' := by
  go_enter Try.func21, Try.ntmps21
  go_wp2
  go_ret
  exact ⟨rfl, rfl⟩
set_option maxRecDepth 100000 in
theorem takes_SWAP (A : Option Addr) (n c : Nat) (w : World) :
    Calls Try.prog 21 #[.string ⟨#[83, 87, 65, 80]⟩, .slice A n c] w fun e w' => e = .returned (.int .i64 2) ∧ w = w' := by
  go_enter Try.func21, Try.ntmps21
  go_wp2
  go_ret
  exact ⟨rfl, rfl⟩
set_option maxRecDepth 100000 in
theorem takes_OVER (A : Option Addr) (n c : Nat) (w : World) :
    Calls Try.prog 21 #[.string ⟨#[79, 86, 69, 82]⟩, .slice A n c] w fun e w' => e = .returned (.int .i64 2) ∧ w = w' := by
  go_enter Try.func21, Try.ntmps21
  go_wp2
  go_ret
  exact ⟨rfl, rfl⟩
set_option maxRecDepth 100000 in
theorem takes_NIP (A : Option Addr) (n c : Nat) (w : World) :
    Calls Try.prog 21 #[.string ⟨#[78, 73, 80]⟩, .slice A n c] w fun e w' => e = .returned (.int .i64 2) ∧ w = w' := by
  go_enter Try.func21, Try.ntmps21
  go_wp2
  go_ret
  exact ⟨rfl, rfl⟩
set_option maxRecDepth 100000 in
theorem takes_TUCK (A : Option Addr) (n c : Nat) (w : World) :
    Calls Try.prog 21 #[.string ⟨#[84, 85, 67, 75]⟩, .slice A n c] w fun e w' => e = .returned (.int .i64 2) ∧ w = w' := by
  go_enter Try.func21, Try.ntmps21
  go_wp2
  go_ret
  exact ⟨rfl, rfl⟩
set_option maxRecDepth 100000 in
theorem takes_ROT (A : Option Addr) (n c : Nat) (w : World) :
    Calls Try.prog 21 #[.string ⟨#[82, 79, 84]⟩, .slice A n c] w fun e w' => e = .returned (.int .i64 3) ∧ w = w' := by
  go_enter Try.func21, Try.ntmps21
  go_wp2
  go_ret
  exact ⟨rfl, rfl⟩
set_option maxRecDepth 100000 in
theorem takes_mROT (A : Option Addr) (n c : Nat) (w : World) :
    Calls Try.prog 21 #[.string ⟨#[45, 82, 79, 84]⟩, .slice A n c] w fun e w' => e = .returned (.int .i64 3) ∧ w = w' := by
  go_enter Try.func21, Try.ntmps21
  go_wp2
  go_ret
  exact ⟨rfl, rfl⟩
set_option maxRecDepth 100000 in
theorem takes_2DUP (A : Option Addr) (n c : Nat) (w : World) :
    Calls Try.prog 21 #[.string ⟨#[50, 68, 85, 80]⟩, .slice A n c] w fun e w' => e = .returned (.int .i64 2) ∧ w = w' := by
  go_enter Try.func21, Try.ntmps21
  go_wp2
  go_ret
  exact ⟨rfl, rfl⟩
set_option maxRecDepth 100000 in
theorem takes_2DROP (A : Option Addr) (n c : Nat) (w : World) :
    Calls Try.prog 21 #[.string ⟨#[50, 68, 82, 79, 80]⟩, .slice A n c] w fun e w' => e = .returned (.int .i64 2) ∧ w = w' := by
  go_enter Try.func21, Try.ntmps21
  go_wp2
  go_ret
  exact ⟨rfl, rfl⟩
set_option maxRecDepth 100000 in
theorem takes_2SWAP (A : Option Addr) (n c : Nat) (w : World) :
    Calls Try.prog 21 #[.string ⟨#[50, 83, 87, 65, 80]⟩, .slice A n c] w fun e w' => e = .returned (.int .i64 4) ∧ w = w' := by
  go_enter Try.func21, Try.ntmps21
  go_wp2
  go_ret
  exact ⟨rfl, rfl⟩
set_option maxRecDepth 100000 in
theorem takes_2OVER (A : Option Addr) (n c : Nat) (w : World) :
    Calls Try.prog 21 #[.string ⟨#[50, 79, 86, 69, 82]⟩, .slice A n c] w fun e w' => e = .returned (.int .i64 4) ∧ w = w' := by
  go_enter Try.func21, Try.ntmps21
  go_wp2
  go_ret
  exact ⟨rfl, rfl⟩
set_option maxRecDepth 100000 in
theorem takes_qDUP (A : Option Addr) (n c : Nat) (w : World) :
    Calls Try.prog 21 #[.string ⟨#[63, 68, 85, 80]⟩, .slice A n c] w fun e w' => e = .returned (.int .i64 1) ∧ w = w' := by
  go_enter Try.func21, Try.ntmps21
  go_wp2
  go_ret
  exact ⟨rfl, rfl⟩
set_option maxRecDepth 100000 in
theorem takes_DEPTH (A : Option Addr) (n c : Nat) (w : World) :
    Calls Try.prog 21 #[.string ⟨#[68, 69, 80, 84, 72]⟩, .slice A n c] w fun e w' => e = .returned (.int .i64 0) ∧ w = w' := by
  go_enter Try.func21, Try.ntmps21
  go_wp2
  go_ret
  exact ⟨rfl, rfl⟩
set_option maxRecDepth 100000 in
theorem takes_PICK_none (A : Option Addr) (c : Nat) (w : World) :
    Calls Try.prog 21 #[.string ⟨#[80, 73, 67, 75]⟩, .slice A 0 c] w fun e w' => e = .returned (.int .i64 1) ∧ w = w' := by
  go_enter Try.func21, Try.ntmps21
  go_wp2
  go_ret
  exact ⟨rfl, rfl⟩
set_option maxRecDepth 100000 in
set_option maxHeartbeats 4000000 in
theorem takes_PICK_low (g o k c : Nat) (y : Int) (w : World) (hk : k ≤ 65536) (hy : y < 0) (hc : w.cell? ⟨g, o + k, none⟩ = some (.int .i64 y)) :
    Calls Try.prog 21 #[.string ⟨#[80, 73, 67, 75]⟩, .slice (some ⟨g, o, none⟩) (k + 1) c] w fun e w' => e = .returned (.int .i64 ((k : Int) + 1 + 1)) ∧ w = w' := by
  have hz : ((k : Int) + 1 == 0) = false := by simp; omega
  have hk1 : (k : Int) < (k : Int) + 1 := by omega
  go_enter Try.func21, Try.ntmps21
  go_wp2
  go_ret
  exact ⟨rfl, rfl⟩
set_option maxRecDepth 100000 in
set_option maxHeartbeats 4000000 in
theorem takes_PICK_high (g o k c : Nat) (y : Int) (w : World) (hk : k ≤ 65536) (hy : (k : Int) ≤ y) (hc : w.cell? ⟨g, o + k, none⟩ = some (.int .i64 y)) :
    Calls Try.prog 21 #[.string ⟨#[80, 73, 67, 75]⟩, .slice (some ⟨g, o, none⟩) (k + 1) c] w fun e w' => e = .returned (.int .i64 ((k : Int) + 1 + 1)) ∧ w = w' := by
  have hz : ((k : Int) + 1 == 0) = false := by simp; omega
  have hk1 : (k : Int) < (k : Int) + 1 := by omega
  have hy0 : decide (y < 0) = false := by simp; omega
  go_enter Try.func21, Try.ntmps21
  go_wp2
  go_ret
  exact ⟨rfl, rfl⟩
set_option maxRecDepth 100000 in
set_option maxHeartbeats 4000000 in
theorem takes_PICK_ok (g o k c : Nat) (y : Nat) (w : World) (hk : k ≤ 65536) (hy : y < k) (hc : w.cell? ⟨g, o + k, none⟩ = some (.int .i64 (y : Int))) :
    Calls Try.prog 21 #[.string ⟨#[80, 73, 67, 75]⟩, .slice (some ⟨g, o, none⟩) (k + 1) c] w fun e w' => e = .returned (.int .i64 ((y : Int) + 2)) ∧ w = w' := by
  have hz : ((k : Int) + 1 == 0) = false := by simp; omega
  have hk1 : (k : Int) < (k : Int) + 1 := by omega
  have hy0 : decide ((y : Int) < 0) = false := by simp
  have hy1 : decide (k ≤ y) = false := by simp; omega
  have hy2 : decide ((k : Int) ≤ (y : Int)) = false := by simp; omega
  go_enter Try.func21, Try.ntmps21
  go_wp2
  go_ret
  exact ⟨rfl, rfl⟩
set_option maxRecDepth 100000 in
theorem takes_ROLL_none (A : Option Addr) (c : Nat) (w : World) :
    Calls Try.prog 21 #[.string ⟨#[82, 79, 76, 76]⟩, .slice A 0 c] w fun e w' => e = .returned (.int .i64 1) ∧ w = w' := by
  go_enter Try.func21, Try.ntmps21
  go_wp2
  go_ret
  exact ⟨rfl, rfl⟩
set_option maxRecDepth 100000 in
set_option maxHeartbeats 4000000 in
theorem takes_ROLL_low (g o k c : Nat) (y : Int) (w : World) (hk : k ≤ 65536) (hy : y < 0) (hc : w.cell? ⟨g, o + k, none⟩ = some (.int .i64 y)) :
    Calls Try.prog 21 #[.string ⟨#[82, 79, 76, 76]⟩, .slice (some ⟨g, o, none⟩) (k + 1) c] w fun e w' => e = .returned (.int .i64 ((k : Int) + 1 + 1)) ∧ w = w' := by
  have hz : ((k : Int) + 1 == 0) = false := by simp; omega
  have hk1 : (k : Int) < (k : Int) + 1 := by omega
  go_enter Try.func21, Try.ntmps21
  go_wp2
  go_ret
  exact ⟨rfl, rfl⟩
set_option maxRecDepth 100000 in
set_option maxHeartbeats 4000000 in
theorem takes_ROLL_high (g o k c : Nat) (y : Int) (w : World) (hk : k ≤ 65536) (hy : (k : Int) ≤ y) (hc : w.cell? ⟨g, o + k, none⟩ = some (.int .i64 y)) :
    Calls Try.prog 21 #[.string ⟨#[82, 79, 76, 76]⟩, .slice (some ⟨g, o, none⟩) (k + 1) c] w fun e w' => e = .returned (.int .i64 ((k : Int) + 1 + 1)) ∧ w = w' := by
  have hz : ((k : Int) + 1 == 0) = false := by simp; omega
  have hk1 : (k : Int) < (k : Int) + 1 := by omega
  have hy0 : decide (y < 0) = false := by simp; omega
  go_enter Try.func21, Try.ntmps21
  go_wp2
  go_ret
  exact ⟨rfl, rfl⟩
set_option maxRecDepth 100000 in
set_option maxHeartbeats 4000000 in
theorem takes_ROLL_ok (g o k c : Nat) (y : Nat) (w : World) (hk : k ≤ 65536) (hy : y < k) (hc : w.cell? ⟨g, o + k, none⟩ = some (.int .i64 (y : Int))) :
    Calls Try.prog 21 #[.string ⟨#[82, 79, 76, 76]⟩, .slice (some ⟨g, o, none⟩) (k + 1) c] w fun e w' => e = .returned (.int .i64 ((y : Int) + 2)) ∧ w = w' := by
  have hz : ((k : Int) + 1 == 0) = false := by simp; omega
  have hk1 : (k : Int) < (k : Int) + 1 := by omega
  have hy0 : decide ((y : Int) < 0) = false := by simp
  have hy1 : decide (k ≤ y) = false := by simp; omega
  have hy2 : decide ((k : Int) ≤ (y : Int)) = false := by simp; omega
  go_enter Try.func21, Try.ntmps21
  go_wp2
  go_ret
  exact ⟨rfl, rfl⟩

set_option maxRecDepth 100000 in
set_option maxHeartbeats 4000000 in
theorem takes_no (A : Option Addr) (n c : Nat) (s : ByteArray) (w : World) (e0 : ¬ s.data.toList = [68, 85, 80]) (e1 : ¬ s.data.toList = [68, 82, 79, 80]) (e2 : ¬ s.data.toList = [83, 87, 65, 80]) (e3 : ¬ s.data.toList = [79, 86, 69, 82]) (e4 : ¬ s.data.toList = [78, 73, 80]) (e5 : ¬ s.data.toList = [84, 85, 67, 75]) (e6 : ¬ s.data.toList = [82, 79, 84]) (e7 : ¬ s.data.toList = [45, 82, 79, 84]) (e8 : ¬ s.data.toList = [50, 68, 85, 80]) (e9 : ¬ s.data.toList = [50, 68, 82, 79, 80]) (e10 : ¬ s.data.toList = [50, 83, 87, 65, 80]) (e11 : ¬ s.data.toList = [50, 79, 86, 69, 82]) (e12 : ¬ s.data.toList = [63, 68, 85, 80]) (e13 : ¬ s.data.toList = [68, 69, 80, 84, 72]) (e14 : ¬ s.data.toList = [80, 73, 67, 75]) (e15 : ¬ s.data.toList = [82, 79, 76, 76]) :
    Calls Try.prog 21 #[.string s, .slice A n c] w fun e w' => e = .returned (.int .i64 (-1)) ∧ w = w' := by
  have f0 := str_no e0
  have f1 := str_no e1
  have f2 := str_no e2
  have f3 := str_no e3
  have f4 := str_no e4
  have f5 := str_no e5
  have f6 := str_no e6
  have f7 := str_no e7
  have f8 := str_no e8
  have f9 := str_no e9
  have f10 := str_no e10
  have f11 := str_no e11
  have f12 := str_no e12
  have f13 := str_no e13
  have f14 := str_no e14
  have f15 := str_no e15
  clear e0 e1 e2 e3 e4 e5 e6 e7 e8 e9 e10 e11 e12 e13 e14 e15
  go_enter Try.func21, Try.ntmps21
  go_wp2
  go_ret
  exact ⟨rfl, rfl⟩
end Go.Proofs.Ytjeapcpicagobaa
