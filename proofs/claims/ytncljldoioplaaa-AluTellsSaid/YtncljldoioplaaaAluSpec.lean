/- What the calls of package alu answer, as plain functions of a name's bytes and of numbers, by the document's own words. -/
import Derived.Test.YtncljldoioplaaaSpec
namespace Go.Proofs.Ytncljldoioplaaa
open Go.RowKit

/-- Bits shifted up, or down, by places that are read without a sign. -/
def shl (a b : Int) : Int := if un b ≤ 63 then wrap64 (a * 2 ^ un b) else 0
def shr (a b : Int) : Int := if un b ≤ 63 then wrap64 ((un a / 2 ^ un b : Nat) : Int) else 0

/-- Yes and no, as a cell; one number for what is so, and another one for what isn't. -/
def tellN (is : Bool) (x y : Int) : Int := if is = true then x else y
def yes (is : Bool) : Int := tellN is (-1) 0

def turnedF (l : List UInt8) (a : Int) : Option Int :=
  if l = [65, 66, 83] then some (if a < 0 then wrap64 (-a) else a) else
  if l = [78, 69, 71, 65, 84, 69] then some (wrap64 (-a)) else
  if l = [73, 78, 86, 69, 82, 84] then some (-1 - a) else
  if l = [49, 43] then some (wrap64 (a + 1)) else
  if l = [49, 45] then some (wrap64 (a - 1)) else
  if l = [67, 69, 76, 76, 83] then some (wrap64 (8 * a)) else
  if l = [50, 42] then some (wrap64 (a + a)) else
  if l = [50, 47] then some (a / 2) else
  if l = [67, 69, 76, 76, 43] then some (wrap64 (a + 8)) else
  if l = [65, 76, 73, 71, 78, 69, 68] then some (wrap64 ((a + 7) / 8 * 8)) else
  none

def asked1F (l : List UInt8) (a : Int) : Option Int :=
  if l = [48, 60, 62] then some (yes (a != 0)) else
  if l = [48, 61] then some (yes (a == 0)) else
  if l = [48, 60] then some (yes (decide (a < 0))) else
  if l = [48, 62] then some (yes (decide (0 < a))) else
  none

def oneF (l : List UInt8) (a : Int) : Option Int := (turnedF l a).or (asked1F l a)

def divF (l : List UInt8) (a b : Int) : Option Int :=
  if l = [47] then some (dq a b) else
  if l = [77, 79, 68] then some (dr a b) else
  none

def divC (l : List UInt8) (b : Int) : Int := if l = [47] ∨ l = [77, 79, 68] then dc b else 0

def joinedF (l : List UInt8) (a b : Int) : Option Int :=
  if l = [45] then some (wrap64 (a - b)) else
  if l = [43] then some (wrap64 (a + b)) else
  if l = [42] then some (wrap64 (a * b)) else
  if l = [65, 78, 68] then some (bits .and .i64 a b) else
  if l = [79, 82] then some (bits .or .i64 a b) else
  if l = [88, 79, 82] then some (bits .xor .i64 a b) else
  if l = [76, 83, 72, 73, 70, 84] then some (shl a b) else
  if l = [82, 83, 72, 73, 70, 84] then some (shr a b) else
  if l = [77, 73, 78] then some (if b < a then b else a) else
  if l = [77, 65, 88] then some (if a < b then b else a) else
  none

def asked2F (l : List UInt8) (a b : Int) : Option Int :=
  if l = [60, 62] then some (yes (a != b)) else
  if l = [61] then some (yes (a == b)) else
  if l = [62] then some (yes (decide (b < a))) else
  if l = [60] then some (yes (decide (a < b))) else
  if l = [62, 61] then some (yes (decide (b ≤ a))) else
  if l = [60, 61] then some (yes (decide (a ≤ b))) else
  if l = [85, 62] then some (yes (decide (un b < un a))) else
  if l = [85, 60] then some (yes (decide (un a < un b))) else
  none

def twoF (l : List UInt8) (a b : Int) : Option Int := (divF l a b).or ((joinedF l a b).or (asked2F l a b))

end Go.Proofs.Ytncljldoioplaaa
