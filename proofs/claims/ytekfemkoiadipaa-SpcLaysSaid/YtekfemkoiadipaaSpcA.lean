/- What the calls of package spc answer, as plain functions; contracts of left, missing, Allot, and of the document's Is and Allot. -/
import Derived.Test.YtekfemkoiadipaaMemTextsA
import Derived.Test.YtekfemkoiadipaaMemMath
namespace Go.Proofs.Ytekfemkoiadipaa
open Go.RowKit
set_option linter.unusedVariables false
set_option linter.unusedSimpArgs false

/-- Is there a place for an end? -/
def endB (L : Nat) (h : Int) : Bool := decide (0 ≤ h ∧ h ≤ (L : Int))
theorem endB_iff (L : Nat) (h : Int) : endB L h = true ↔ (0 ≤ h ∧ h ≤ (L : Int)) := by unfold endB; simp
theorem endB_no (L : Nat) (h : Int) : endB L h = false ↔ ¬ (0 ≤ h ∧ h ≤ (L : Int)) := by unfold endB; rw [decide_eq_false_iff_not]

/-- May an end be moved so far? -/
def movB (L : Nat) (low here n : Int) : Bool := decide (low - here ≤ n ∧ n ≤ (L : Int) - here)
theorem movB_iff (L : Nat) (low here n : Int) : movB L low here n = true ↔ (low - here ≤ n ∧ n ≤ (L : Int) - here) := by unfold movB; simp
theorem movB_no (L : Nat) (low here n : Int) : movB L low here n = false ↔ ¬ (low - here ≤ n ∧ n ≤ (L : Int) - here) := by unfold movB; rw [decide_eq_false_iff_not]
def movP (L : Nat) (low here n : Int) : Int := if movB L low here n = true then here + n else here
def movC (L : Nat) (low here n : Int) : Int := if movB L low here n = true then 0 else -8

/-- Is there room? -/
def roomB (L : Nat) (p : Int) (k : Nat) : Bool := decide ((k : Int) ≤ (L : Int) - p)
theorem roomB_iff (L : Nat) (p : Int) (k : Nat) : roomB L p k = true ↔ (k : Int) ≤ (L : Int) - p := by unfold roomB; simp
theorem roomB_no (L : Nat) (p : Int) (k : Nat) : roomB L p k = false ↔ ¬ (k : Int) ≤ (L : Int) - p := by unfold roomB; rw [decide_eq_false_iff_not]
theorem room_ok {L : Nat} {p : Int} {k : Nat} (he : endB L p = true) (h : roomB L p k = true) : okB L p k = true := by
  rw [endB_iff] at he
  rw [roomB_iff] at h
  rw [okB_iff]
  omega
def layM (m : PM) (p : Int) (b : List UInt8) : PM := if roomB m.1.length p b.length = true then writeF m p b else m
def layP (L : Nat) (p : Int) (k : Nat) : Int := if roomB L p k = true then p + k else p
def layC (L : Nat) (p : Int) (k : Nat) : Int := if roomB L p k = true then 0 else -8

/-- How many bytes an end is short of the next multiple of 8. -/
def misN (p : Int) : Nat := ((8 - p % 8) % 8).toNat
theorem misN_int (p : Int) : (misN p : Int) = (8 - p % 8) % 8 := by unfold misN; omega
theorem misN_lt (p : Int) : misN p < 8 := by unfold misN; omega

def comM (m : PM) (p n : Int) : PM := if p % 8 = 0 then layM m p (cellBytes n) else m
def comP (L : Nat) (p : Int) : Int := if p % 8 = 0 then layP L p 8 else p
def comC (L : Nat) (p : Int) : Int := if p % 8 = 0 then layC L p 8 else -23

def upB (p : Int) : List UInt8 := List.replicate (misN p) 0
theorem upB_len (p : Int) : (upB p).length = misN p := by simp [upB]

set_option maxRecDepth 100000 in
set_option maxHeartbeats 1000000 in
theorem left_any (A P : Option Addr) (L c K d : Nat) (h : Int) (w : World) (hL : L ≤ 65536) (h0 : 0 ≤ h) (h1 : h ≤ (L : Int)) :
    Calls Try.prog 23 #[.agg #[.slice A L c, .slice P K d, .int .i64 h]] w fun e w' => e = .returned (.int .i64 ((L : Int) - h)) ∧ Below w.heap.size w w' := by
  go_enter Try.func23, Try.ntmps23
  go_wp2
  go_ret
  exact ⟨rfl, (Below.refl _ _).alloc (Nat.le_refl _) _⟩

set_option maxRecDepth 100000 in
set_option maxHeartbeats 1000000 in
theorem missing_any (p : Int) (w : World) (h0 : 0 ≤ p) (h1 : p ≤ 65536) :
    Calls Try.prog 26 #[.int .i64 p] w fun e w' => e = .returned (.int .i64 (misN p : Int)) ∧ Below w.heap.size w w' := by
  have HM : Hid ((8 - p % 8) % 8 = (misN p : Int)) := (misN_int p).symm
  go_enter Try.func26, Try.ntmps26
  go_wp2
  go_ret
  exact ⟨ret_int HM.out, Below.refl _ _⟩

set_option maxRecDepth 100000 in
set_option maxHeartbeats 1000000 in
theorem is_at (A P : Option Addr) (L c K d : Nat) (p : Int) (w : World) :
    Calls Try.prog 10 #[.agg #[.slice A L c, .slice P K d], .int .i64 p] w fun e w' => e = .returned (.bool (endB L p)) ∧ Below w.heap.size w w' := by
  by_cases h0 : 0 ≤ p
  · by_cases h1 : p ≤ (L : Int)
    · have HE : Hid (endB L p = true) := (endB_iff _ _).2 ⟨h0, h1⟩
      go_enter Try.func10, Try.ntmps10
      go_wp2
      go_ret
      exact ⟨ret_bool HE.out.symm, (Below.refl _ _).alloc (Nat.le_refl _) _⟩
    · have HE : Hid (endB L p = false) := (endB_no _ _).2 (by omega)
      have h1' : decide (p ≤ (L : Int)) = false := by simp; omega
      clear h1
      go_enter Try.func10, Try.ntmps10
      go_wp2
      go_ret
      exact ⟨ret_bool HE.out.symm, (Below.refl _ _).alloc (Nat.le_refl _) _⟩
  · have HE : Hid (endB L p = false) := (endB_no _ _).2 (by omega)
    have h0' : decide (0 ≤ p) = false := by simp; omega
    clear h0
    go_enter Try.func10, Try.ntmps10
    go_wp2
    go_ret
    exact ⟨ret_bool HE.out.symm, (Below.refl _ _).alloc (Nat.le_refl _) _⟩

theorem movP_yes {L : Nat} {low p n : Int} (h : movB L low p n = true) : movP L low p n = p + n := by unfold movP; rw [if_pos h]
theorem movP_no {L : Nat} {low p n : Int} (h : movB L low p n = false) : movP L low p n = p := by unfold movP; rw [if_neg (by simp [h])]
theorem movC_yes {L : Nat} {low p n : Int} (h : movB L low p n = true) : movC L low p n = 0 := by unfold movC; rw [if_pos h]
theorem movC_no {L : Nat} {low p n : Int} (h : movB L low p n = false) : movC L low p n = -8 := by unfold movC; rw [if_neg (by simp [h])]

set_option maxRecDepth 100000 in
set_option maxHeartbeats 1000000 in
theorem allot_at (A P : Option Addr) (L c K d : Nat) (low p n : Int) (w : World) (hL : L ≤ 65536) (hp : endB L p = true) (hl : endB L low = true) :
    Calls Try.prog 11 #[.agg #[.slice A L c, .slice P K d], .int .i64 low, .int .i64 p, .int .i64 n] w fun e w' => e = .returned (.tuple #[.int .i64 (movP L low p n), .int .i64 (movC L low p n)]) ∧ Below w.heap.size w w' := by
  have hmf : ∀ (fn : Fn) (first cap : Array Value) (w : World), (Instr.makeFunc fn first cap).run Try.prog w = .ok (.func fn first cap) w := fun _ _ _ _ => rfl
  obtain ⟨p0, p1⟩ := (endB_iff _ _).1 hp
  obtain ⟨l0, l1⟩ := (endB_iff _ _).1 hl
  clear hp hl
  by_cases h1 : n < low - p
  · have HE : Hid (movB L low p n = false) := (movB_no _ _ _ _).2 (by omega)
    go_enter Try.func11, Try.ntmps11
    go_wp2
    go_ret2
    exact ⟨ret_two (movP_no HE.out).symm (movC_no HE.out).symm, (Below.refl _ _).alloc (Nat.le_refl _) _⟩
  · have h1' : decide (n < low - p) = false := by simp; omega
    by_cases h2 : (L : Int) - p < n
    · have HE : Hid (movB L low p n = false) := (movB_no _ _ _ _).2 (by omega)
      clear h1
      go_enter Try.func11, Try.ntmps11
      go_wp2_with (go_at_call 23; (with_reducible refine (left_any _ _ _ _ _ _ _ _ hL p0 p1).mono ?_); rintro e w1 ⟨rfl, b1⟩)
      go_ret2
      exact ⟨ret_two (movP_no HE.out).symm (movC_no HE.out).symm, box_below b1⟩
    · have HE : Hid (movB L low p n = true) := (movB_iff _ _ _ _).2 (by omega)
      have h2' : decide ((L : Int) - p < n) = false := by simp; omega
      have h3 : 0 ≤ p + n := by omega
      have h4 : p + n ≤ 65536 := by omega
      clear h1 h2
      go_enter Try.func11, Try.ntmps11
      go_wp2_with (go_at_call 23; (with_reducible refine (left_any _ _ _ _ _ _ _ _ hL p0 p1).mono ?_); rintro e w1 ⟨rfl, b1⟩)
      go_ret2
      exact ⟨ret_two (movP_yes HE.out).symm (movC_yes HE.out).symm, box_below b1⟩
end Go.Proofs.Ytekfemkoiadipaa
