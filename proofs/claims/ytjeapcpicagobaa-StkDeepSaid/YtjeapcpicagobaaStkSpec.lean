/- What the words of layer 4 make of a stack, as plain functions: each word's kind by its name, and what a kind makes of a stack. -/
import Derived.Test.YtjeapcpicagobaaStkD
namespace Go.Proofs.Ytjeapcpicagobaa
open Go.RowKit

inductive Kind where
  | perm (k : Nat) (idx : List Nat)
  | qdup
  | depth
  | pick
  | roll
  | none

/-- A word's kind, by the bytes of its name. -/
def kindF (s : List UInt8) : Kind :=
  if s = [68, 85, 80] then .perm 1 [0, 0] else
  if s = [68, 82, 79, 80] then .perm 1 [] else
  if s = [83, 87, 65, 80] then .perm 2 [1, 0] else
  if s = [79, 86, 69, 82] then .perm 2 [0, 1, 0] else
  if s = [78, 73, 80] then .perm 2 [1] else
  if s = [84, 85, 67, 75] then .perm 2 [1, 0, 1] else
  if s = [82, 79, 84] then .perm 3 [1, 2, 0] else
  if s = [45, 82, 79, 84] then .perm 3 [2, 0, 1] else
  if s = [50, 68, 85, 80] then .perm 2 [0, 1, 0, 1] else
  if s = [50, 68, 82, 79, 80] then .perm 2 [] else
  if s = [50, 83, 87, 65, 80] then .perm 4 [2, 3, 0, 1] else
  if s = [50, 79, 86, 69, 82] then .perm 4 [0, 1, 2, 3, 0, 1] else
  if s = [63, 68, 85, 80] then .qdup else
  if s = [68, 69, 80, 84, 72] then .depth else
  if s = [80, 73, 67, 75] then .pick else
  if s = [82, 79, 76, 76] then .roll else
  .none

inductive Res where
  | no
  | under
  | out (l : List Int)

def topF (l : List Int) : Int := l.getD (l.length - 1) 0
/-- Is the number on top one of a cell that is there? -/
def numOk (l : List Int) : Bool := decide (0 < l.length ∧ 0 ≤ topF l ∧ topF l < (l.length : Int) - 1)
/-- The place of the cell that the number on top tells. -/
def placeF (l : List Int) : Nat := l.length - 2 - (topF l).toNat

def resF (k : Kind) (l : List Int) : Res :=
  match k with
  | .perm k idx => if l.length < k then .under else .out (leftL l (l.length - k) idx)
  | .qdup => if l.length = 0 then .under else .out (if topF l = 0 then l else l ++ [topF l])
  | .depth => .out (l ++ [(l.length : Int)])
  | .pick => if numOk l = true then .out (l.take (l.length - 1) ++ [l.getD (placeF l) 0]) else .under
  | .roll => if numOk l = true then .out ((l.take (placeF l) ++ (l.take (l.length - 1)).drop (placeF l + 1)) ++ [l.getD (placeF l) 0]) else .under
  | .none => .no

/-- The answers' three parts. -/
def knownR : Res → Bool
  | .no => false
  | .under => true
  | .out _ => true
def codeR (r : Res) (limit : Int) : Int :=
  match r with
  | .no => 0
  | .under => -4
  | .out o => if limit < (o.length : Int) then -3 else 0
def listR (r : Res) (l : List Int) (limit : Int) : List Int :=
  match r with
  | .no => l
  | .under => l
  | .out o => if limit < (o.length : Int) then l else o

theorem num_cases (l : List Int) : (l = [] ∧ numOk l = false) ∨ (∃ k, l.length = k + 1 ∧ (l.getD k 0 < 0 ∨ (k : Int) ≤ l.getD k 0) ∧ numOk l = false) ∨ (∃ p y, l.length = p + 1 + y + 1 ∧ l.getD (p + 1 + y) 0 = (y : Int) ∧ numOk l = true ∧ placeF l = p) := by
  rcases Nat.eq_zero_or_pos l.length with h | h
  · exact .inl ⟨List.eq_nil_of_length_eq_zero h, by simp [numOk, h]⟩
  · right
    obtain ⟨k, hk⟩ : ∃ k, l.length = k + 1 := ⟨l.length - 1, by omega⟩
    have ht : topF l = l.getD k 0 := by simp only [topF]; rw [hk]; rfl
    by_cases hy : l.getD k 0 < 0 ∨ (k : Int) ≤ l.getD k 0
    · refine .inl ⟨k, hk, hy, ?_⟩
      simp only [numOk, ht, hk, decide_eq_false_iff_not]
      omega
    · obtain ⟨y, hyy⟩ := Int.eq_ofNat_of_zero_le (by omega : 0 ≤ l.getD k 0)
      obtain ⟨p, hp⟩ : ∃ p, k = p + 1 + y := ⟨k - 1 - y, by omega⟩
      refine .inr ⟨p, y, by omega, by rw [← hp, hyy], ?_, ?_⟩
      · simp only [numOk, ht, hk, decide_eq_true_eq]
        omega
      · simp only [placeF, ht, hk, hyy, Int.toNat_natCast]
        omega

/-- A name is one of the sixteen, or none of them. -/
theorem name_cases (s : ByteArray) {P : ByteArray → Prop}
    (h0 : P ⟨#[68, 85, 80]⟩)
    (h1 : P ⟨#[68, 82, 79, 80]⟩)
    (h2 : P ⟨#[83, 87, 65, 80]⟩)
    (h3 : P ⟨#[79, 86, 69, 82]⟩)
    (h4 : P ⟨#[78, 73, 80]⟩)
    (h5 : P ⟨#[84, 85, 67, 75]⟩)
    (h6 : P ⟨#[82, 79, 84]⟩)
    (h7 : P ⟨#[45, 82, 79, 84]⟩)
    (h8 : P ⟨#[50, 68, 85, 80]⟩)
    (h9 : P ⟨#[50, 68, 82, 79, 80]⟩)
    (h10 : P ⟨#[50, 83, 87, 65, 80]⟩)
    (h11 : P ⟨#[50, 79, 86, 69, 82]⟩)
    (h12 : P ⟨#[63, 68, 85, 80]⟩)
    (h13 : P ⟨#[68, 69, 80, 84, 72]⟩)
    (h14 : P ⟨#[80, 73, 67, 75]⟩)
    (h15 : P ⟨#[82, 79, 76, 76]⟩)
    (hn : ¬ s.data.toList = [68, 85, 80] → ¬ s.data.toList = [68, 82, 79, 80] → ¬ s.data.toList = [83, 87, 65, 80] → ¬ s.data.toList = [79, 86, 69, 82] → ¬ s.data.toList = [78, 73, 80] → ¬ s.data.toList = [84, 85, 67, 75] → ¬ s.data.toList = [82, 79, 84] → ¬ s.data.toList = [45, 82, 79, 84] → ¬ s.data.toList = [50, 68, 85, 80] → ¬ s.data.toList = [50, 68, 82, 79, 80] → ¬ s.data.toList = [50, 83, 87, 65, 80] → ¬ s.data.toList = [50, 79, 86, 69, 82] → ¬ s.data.toList = [63, 68, 85, 80] → ¬ s.data.toList = [68, 69, 80, 84, 72] → ¬ s.data.toList = [80, 73, 67, 75] → ¬ s.data.toList = [82, 79, 76, 76] → P s) : P s := by
  by_cases e0 : s.data.toList = [68, 85, 80]
  · obtain rfl : s = ⟨#[68, 85, 80]⟩ := Go.WideShapes.bytes_inj (by rw [e0])
    exact h0
  by_cases e1 : s.data.toList = [68, 82, 79, 80]
  · obtain rfl : s = ⟨#[68, 82, 79, 80]⟩ := Go.WideShapes.bytes_inj (by rw [e1])
    exact h1
  by_cases e2 : s.data.toList = [83, 87, 65, 80]
  · obtain rfl : s = ⟨#[83, 87, 65, 80]⟩ := Go.WideShapes.bytes_inj (by rw [e2])
    exact h2
  by_cases e3 : s.data.toList = [79, 86, 69, 82]
  · obtain rfl : s = ⟨#[79, 86, 69, 82]⟩ := Go.WideShapes.bytes_inj (by rw [e3])
    exact h3
  by_cases e4 : s.data.toList = [78, 73, 80]
  · obtain rfl : s = ⟨#[78, 73, 80]⟩ := Go.WideShapes.bytes_inj (by rw [e4])
    exact h4
  by_cases e5 : s.data.toList = [84, 85, 67, 75]
  · obtain rfl : s = ⟨#[84, 85, 67, 75]⟩ := Go.WideShapes.bytes_inj (by rw [e5])
    exact h5
  by_cases e6 : s.data.toList = [82, 79, 84]
  · obtain rfl : s = ⟨#[82, 79, 84]⟩ := Go.WideShapes.bytes_inj (by rw [e6])
    exact h6
  by_cases e7 : s.data.toList = [45, 82, 79, 84]
  · obtain rfl : s = ⟨#[45, 82, 79, 84]⟩ := Go.WideShapes.bytes_inj (by rw [e7])
    exact h7
  by_cases e8 : s.data.toList = [50, 68, 85, 80]
  · obtain rfl : s = ⟨#[50, 68, 85, 80]⟩ := Go.WideShapes.bytes_inj (by rw [e8])
    exact h8
  by_cases e9 : s.data.toList = [50, 68, 82, 79, 80]
  · obtain rfl : s = ⟨#[50, 68, 82, 79, 80]⟩ := Go.WideShapes.bytes_inj (by rw [e9])
    exact h9
  by_cases e10 : s.data.toList = [50, 83, 87, 65, 80]
  · obtain rfl : s = ⟨#[50, 83, 87, 65, 80]⟩ := Go.WideShapes.bytes_inj (by rw [e10])
    exact h10
  by_cases e11 : s.data.toList = [50, 79, 86, 69, 82]
  · obtain rfl : s = ⟨#[50, 79, 86, 69, 82]⟩ := Go.WideShapes.bytes_inj (by rw [e11])
    exact h11
  by_cases e12 : s.data.toList = [63, 68, 85, 80]
  · obtain rfl : s = ⟨#[63, 68, 85, 80]⟩ := Go.WideShapes.bytes_inj (by rw [e12])
    exact h12
  by_cases e13 : s.data.toList = [68, 69, 80, 84, 72]
  · obtain rfl : s = ⟨#[68, 69, 80, 84, 72]⟩ := Go.WideShapes.bytes_inj (by rw [e13])
    exact h13
  by_cases e14 : s.data.toList = [80, 73, 67, 75]
  · obtain rfl : s = ⟨#[80, 73, 67, 75]⟩ := Go.WideShapes.bytes_inj (by rw [e14])
    exact h14
  by_cases e15 : s.data.toList = [82, 79, 76, 76]
  · obtain rfl : s = ⟨#[82, 79, 76, 76]⟩ := Go.WideShapes.bytes_inj (by rw [e15])
    exact h15
  exact hn e0 e1 e2 e3 e4 e5 e6 e7 e8 e9 e10 e11 e12 e13 e14 e15
theorem kind_DUP : kindF (⟨#[68, 85, 80]⟩ : ByteArray).data.toList = .perm 1 [0, 0] := by rfl
theorem kind_DROP : kindF (⟨#[68, 82, 79, 80]⟩ : ByteArray).data.toList = .perm 1 [] := by rfl
theorem kind_SWAP : kindF (⟨#[83, 87, 65, 80]⟩ : ByteArray).data.toList = .perm 2 [1, 0] := by rfl
theorem kind_OVER : kindF (⟨#[79, 86, 69, 82]⟩ : ByteArray).data.toList = .perm 2 [0, 1, 0] := by rfl
theorem kind_NIP : kindF (⟨#[78, 73, 80]⟩ : ByteArray).data.toList = .perm 2 [1] := by rfl
theorem kind_TUCK : kindF (⟨#[84, 85, 67, 75]⟩ : ByteArray).data.toList = .perm 2 [1, 0, 1] := by rfl
theorem kind_ROT : kindF (⟨#[82, 79, 84]⟩ : ByteArray).data.toList = .perm 3 [1, 2, 0] := by rfl
theorem kind_mROT : kindF (⟨#[45, 82, 79, 84]⟩ : ByteArray).data.toList = .perm 3 [2, 0, 1] := by rfl
theorem kind_2DUP : kindF (⟨#[50, 68, 85, 80]⟩ : ByteArray).data.toList = .perm 2 [0, 1, 0, 1] := by rfl
theorem kind_2DROP : kindF (⟨#[50, 68, 82, 79, 80]⟩ : ByteArray).data.toList = .perm 2 [] := by rfl
theorem kind_2SWAP : kindF (⟨#[50, 83, 87, 65, 80]⟩ : ByteArray).data.toList = .perm 4 [2, 3, 0, 1] := by rfl
theorem kind_2OVER : kindF (⟨#[50, 79, 86, 69, 82]⟩ : ByteArray).data.toList = .perm 4 [0, 1, 2, 3, 0, 1] := by rfl
theorem kind_qDUP : kindF (⟨#[63, 68, 85, 80]⟩ : ByteArray).data.toList = .qdup := by rfl
theorem kind_DEPTH : kindF (⟨#[68, 69, 80, 84, 72]⟩ : ByteArray).data.toList = .depth := by rfl
theorem kind_PICK : kindF (⟨#[80, 73, 67, 75]⟩ : ByteArray).data.toList = .pick := by rfl
theorem kind_ROLL : kindF (⟨#[82, 79, 76, 76]⟩ : ByteArray).data.toList = .roll := by rfl
theorem kind_other (s : List UInt8) (e0 : ¬ s = [68, 85, 80]) (e1 : ¬ s = [68, 82, 79, 80]) (e2 : ¬ s = [83, 87, 65, 80]) (e3 : ¬ s = [79, 86, 69, 82]) (e4 : ¬ s = [78, 73, 80]) (e5 : ¬ s = [84, 85, 67, 75]) (e6 : ¬ s = [82, 79, 84]) (e7 : ¬ s = [45, 82, 79, 84]) (e8 : ¬ s = [50, 68, 85, 80]) (e9 : ¬ s = [50, 68, 82, 79, 80]) (e10 : ¬ s = [50, 83, 87, 65, 80]) (e11 : ¬ s = [50, 79, 86, 69, 82]) (e12 : ¬ s = [63, 68, 85, 80]) (e13 : ¬ s = [68, 69, 80, 84, 72]) (e14 : ¬ s = [80, 73, 67, 75]) (e15 : ¬ s = [82, 79, 76, 76]) : kindF s = .none := by
  simp only [kindF, e0, e1, e2, e3, e4, e5, e6, e7, e8, e9, e10, e11, e12, e13, e14, e15, if_false]
end Go.Proofs.Ytjeapcpicagobaa
