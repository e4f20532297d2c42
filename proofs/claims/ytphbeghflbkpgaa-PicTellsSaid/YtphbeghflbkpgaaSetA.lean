/- What the laws of this stage lean on, part 1: Spec, NumSpec, NumMath, MathB, PicSpec, MemSpec, MemBase, MemBytesA, MemBytesB, MemBytesC, MemLies, MemWalksA, MemWalksB, MemWalksD, MemRefA, MemRefP, MemWalksF, MemSame, NumStr, NumRefA, NumRefB, NumRefC, NumCodeA, MemRefJ, MemShown. -/
import Derived.RowKit
import Derived.IntWalk
import Derived.Laws.Bits64
import Derived.Laws.CopyOwn
import Derived.Test.YtphbeghflbkpgaaRows
import Derived.WalkKit
import Derived.WalkSpells
import Derived.WalkLawsBesides
import Derived.Deep.QuietTactic
import Derived.BigQuiet
import Derived.Lib.Hide
import Derived.LoopN
import Derived.Laws.OwnMore
import Derived.OwnWalk
import Derived.Lib.SmallJoins
import Derived.Maps.AppendAt
import Derived.Deep.AppendLies
import Derived.Deep.RegionHeld3
import Derived.Test.YtphbeghflbkpgaaProg
import Derived.Laws.IdiomStrings
import Derived.Laws.BytesString
import Derived.Deep.DeepCutAuto
import Derived.Deep.Cut

/- What the calls of package cell answer, as plain functions of numbers, by the document's own words. -/
namespace Go.Proofs.Ytphbeghflbkpgaa
open Go.RowKit

/-- A cell, read without a sign. -/
def un (n : Int) : Nat := (IntKind.u64.wrap n).toNat
theorem un_cast (n : Int) : IntKind.u64.wrap n = (un n : Int) := by unfold un; rw [IntKind.wrap_u64]; omega
theorem un_mod (n : Int) : (un n : Int) = n % 18446744073709551616 := by rw [← un_cast, IntKind.wrap_u64]
theorem un_lt (n : Int) : un n < 18446744073709551616 := by have := un_mod n; omega
theorem un_nat (k : Nat) (h : k < 18446744073709551616) : IntKind.u64.wrap (k : Int) = (k : Int) := by rw [IntKind.wrap_u64]; omega

/-- Products: the low cell and the high one. -/
def umLo (a b : Int) : Int := wrap64 ((un a * un b % 18446744073709551616 : Nat) : Int)
def umHi (a b : Int) : Int := wrap64 ((un a * un b / 18446744073709551616 : Nat) : Int)
/-- Quotients of pairs without a sign. -/
def uok (hi d : Int) : Bool := decide (un hi < un d)
def uq (lo hi d : Int) : Int := if uok hi d then wrap64 (((un hi * 18446744073709551616 + un lo) / un d : Nat) : Int) else 0
def ur (lo hi d : Int) : Int := if uok hi d then wrap64 (((un hi * 18446744073709551616 + un lo) % un d : Nat) : Int) else 0
def uc (hi d : Int) : Int := if d = 0 then -10 else if uok hi d then 0 else -11

/-- A pair with a sign. -/
def pr (lo hi : Int) : Int := (un lo : Int) + 18446744073709551616 * hi
def sok (lo hi d : Int) : Bool := d != 0 && decide (-9223372036854775808 ≤ (pr lo hi).tdiv d) && decide ((pr lo hi).tdiv d ≤ 9223372036854775807)
def sr (lo hi d : Int) : Int := if sok lo hi d then (pr lo hi).tmod d else 0
def sc (lo hi d : Int) : Int := if d = 0 then -10 else if sok lo hi d then 0 else -11

/-- The range of a cell. -/
def cellR (n : Int) : Prop := -9223372036854775808 ≤ n ∧ n ≤ 9223372036854775807
end Go.Proofs.Ytphbeghflbkpgaa

/- What the calls of package num answer, as plain functions, by the document's own words. -/
namespace Go.Proofs.Ytphbeghflbkpgaa
open Go.RowKit
set_option linter.unusedVariables false
set_option linter.unusedSimpArgs false

/-- A digit's sign. -/
def digN (n : Nat) : Nat := if n ≤ 9 then 48 + n else if n ≤ 35 then 55 + n else 63
def digF (n : Int) : Int := if 0 ≤ n then (digN n.toNat : Int) else 63
/-- What a sign is worth; 99: it is no digit. -/
def wN (c : Nat) : Nat := if 48 ≤ c ∧ c ≤ 57 then c - 48 else if 65 ≤ c ∧ c ≤ 90 then c - 55 else if 97 ≤ c ∧ c ≤ 122 then c - 87 else 99
def baseB (b : Int) : Bool := decide (2 ≤ b ∧ b ≤ 36)
theorem baseB_iff (b : Int) : baseB b = true ↔ (2 ≤ b ∧ b ≤ 36) := by unfold baseB; simp
theorem baseB_no (b : Int) : baseB b = false ↔ ¬ (2 ≤ b ∧ b ≤ 36) := by unfold baseB; rw [decide_eq_false_iff_not]
/-- Is it a digit of the base? -/
def isW (c : Nat) (b : Int) : Bool := decide (2 ≤ b ∧ b ≤ 36 ∧ (wN c : Int) < b)
theorem isW_iff (c : Nat) (b : Int) : isW c b = true ↔ (2 ≤ b ∧ b ≤ 36 ∧ (wN c : Int) < b) := by unfold isW; simp
theorem isW_no (c : Nat) (b : Int) : isW c b = false ↔ ¬ (2 ≤ b ∧ b ≤ 36 ∧ (wN c : Int) < b) := by unfold isW; rw [decide_eq_false_iff_not]
def worthF (c : Nat) (b : Int) : Int := if isW c b = true then (wN c : Int) else 0

/-- Digits, read one by one. -/
def readF (b : Int) : Int → List UInt8 → Option Int
  | n, [] => some n
  | n, c :: l => if isW c.toNat b = true then readF b (wrap64 (wrap64 (n * b) + (wN c.toNat : Int))) l else none
/-- A mark: the base that it tells; and what is behind it. -/
def markF (l : List UInt8) (b : Int) : Int × List UInt8 :=
  match l with
  | [] => (b, [])
  | c :: r => if c = 35 then (10, r) else if c = 36 then (16, r) else if c = 37 then (2, r) else (b, c :: r)
def minF (l : List UInt8) : Bool × List UInt8 :=
  match l with
  | [] => (false, [])
  | c :: r => if c = 45 then (true, r) else (false, c :: r)
def endF (neg : Bool) (b : Int) (l : List UInt8) : Option Int :=
  if l = [] then none else (readF b 0 l).map fun n => if neg = true then wrap64 (0 - n) else n
/-- A sign between two quotes. -/
def quoteF (l : List UInt8) : Option Int :=
  match l with
  | [a, c, d] => if a = 39 ∧ d = 39 ∧ 33 ≤ c.toNat ∧ c.toNat ≤ 126 then some (c.toNat : Int) else none
  | _ => none
def parseF (l : List UInt8) (b : Int) : Option Int :=
  match quoteF l with
  | some n => some n
  | none => endF (minF (markF l b).2).1 (markF l b).1 (minF (markF l b).2).2
/-- A number in digits. -/
def usF (b u : Nat) : List UInt8 :=
  if h : 2 ≤ b ∧ b ≤ u then usF b (u / b) ++ [UInt8.ofNat (digN (u % b))] else [UInt8.ofNat (digN u)]
termination_by u
decreasing_by exact Nat.div_lt_self (by omega) (by omega)
theorem usF_big {b u : Nat} (h2 : 2 ≤ b) (h : b ≤ u) : usF b u = usF b (u / b) ++ [UInt8.ofNat (digN (u % b))] := by
  rw [usF, dif_pos ⟨h2, h⟩]
theorem usF_low {b u : Nat} (h : u < b) : usF b u = [UInt8.ofNat (digN u)] := by
  rw [usF, dif_neg (by omega)]
def ushowF (n b : Int) : List UInt8 := if baseB b = true then usF b.toNat (un n) else []
def showF (n b : Int) : List UInt8 := if baseB b = true then (if 0 ≤ n then usF b.toNat n.toNat else 45 :: usF b.toNat (-n).toNat) else []
def showC (b : Int) : Int := if baseB b = true then 0 else -24
end Go.Proofs.Ytphbeghflbkpgaa

/- Plain facts on numbers as texts: what is shown is read. -/
namespace Go.Proofs.Ytphbeghflbkpgaa
open Go.RowKit
set_option linter.unusedVariables false
set_option linter.unusedSimpArgs false

theorem w64_id {n : Int} (h0 : -9223372036854775808 ≤ n) (h1 : n ≤ 9223372036854775807) : wrap64 n = n := IntWalk.wrap64_in n ⟨h0, h1⟩
theorem w64_mod (n : Int) : wrap64 n % 18446744073709551616 = n % 18446744073709551616 := by unfold wrap64; omega
theorem w64_eq {a b : Int} (h : a % 18446744073709551616 = b % 18446744073709551616) : wrap64 a = wrap64 b := by unfold wrap64; omega
theorem w64_mul (a b : Int) : wrap64 (wrap64 a * b) = wrap64 (a * b) := by
  apply w64_eq
  rw [Int.mul_emod, w64_mod, ← Int.mul_emod]
theorem w64_step (n b d : Int) : wrap64 (wrap64 (wrap64 n * b) + d) = wrap64 (n * b + d) := by
  rw [w64_mul]
  apply w64_eq
  rw [Int.add_emod, w64_mod, ← Int.add_emod]

theorem digN_lt (n : Nat) : digN n < 256 := by unfold digN; split; omega; split <;> omega
theorem digN_u8 (n : Nat) : (UInt8.ofNat (digN n)).toNat = digN n := by
  rw [UInt8.toNat_ofNat']
  have := digN_lt n
  omega
theorem wN_dig {n : Nat} (h : n ≤ 35) : wN (digN n) = n := by
  unfold wN digN
  split
  · rw [if_pos (by omega)]; omega
  · rw [if_neg (by omega), if_pos (by omega)]; omega
/-- A digit's sign is a digit or a great letter. -/
theorem digN_is {n : Nat} (h : n ≤ 35) : (48 ≤ digN n ∧ digN n ≤ 57) ∨ (65 ≤ digN n ∧ digN n ≤ 90) := by
  unfold digN
  by_cases h9 : n ≤ 9
  · rw [if_pos h9]; omega
  · rw [if_neg h9, if_pos h]; omega

/-- What digits tell, without going round. -/
def valF (b : Int) : Int → List UInt8 → Int
  | n, [] => n
  | n, c :: l => valF b (n * b + (wN c.toNat : Int)) l
theorem readF_val {b : Int} {l : List UInt8} : ∀ {n : Int}, (∀ c ∈ l, isW c.toNat b = true) → readF b (wrap64 n) l = some (wrap64 (valF b n l)) := by
  induction l with
  | nil => intro n _; rfl
  | cons c l ih =>
    intro n h
    show (if _ then _ else _) = _
    rw [if_pos (h c (by simp)), w64_step]
    exact ih fun x hx => h x (by simp [hx])
theorem valF_app (b : Int) (l r : List UInt8) : ∀ n, valF b n (l ++ r) = valF b (valF b n l) r := by
  induction l with
  | nil => intro n; rfl
  | cons c l ih => intro n; exact ih _
theorem us_ne {b u : Nat} : usF b u ≠ [] := by
  rw [usF]
  split <;> simp
theorem us_all {b : Nat} (h2 : 2 ≤ b) (h36 : b ≤ 36) : ∀ u, ∀ c ∈ usF b u, ∃ k, k < b ∧ c = UInt8.ofNat (digN k) := by
  intro u
  induction u using Nat.strongRecOn with
  | ind u ih =>
    intro c hc
    by_cases h : b ≤ u
    · rw [usF_big h2 h] at hc
      rcases List.mem_append.1 hc with hc | hc
      · exact ih (u / b) (Nat.div_lt_self (by omega) (by omega)) c hc
      · rw [List.mem_singleton] at hc
        exact ⟨u % b, Nat.mod_lt _ (by omega), hc⟩
    · rw [usF_low (by omega)] at hc
      rw [List.mem_singleton] at hc
      exact ⟨u, by omega, hc⟩
theorem us_isW {b : Nat} (h2 : 2 ≤ b) (h36 : b ≤ 36) (u : Nat) : ∀ c ∈ usF b u, isW c.toNat (b : Int) = true := by
  intro c hc
  obtain ⟨k, hk, rfl⟩ := us_all h2 h36 u c hc
  rw [digN_u8, isW_iff, wN_dig (by omega)]
  omega
theorem us_val {b : Nat} (h2 : 2 ≤ b) (h36 : b ≤ 36) : ∀ u, valF (b : Int) 0 (usF b u) = (u : Int) := by
  intro u
  induction u using Nat.strongRecOn with
  | ind u ih =>
    by_cases h : b ≤ u
    · rw [usF_big h2 h, valF_app, ih (u / b) (Nat.div_lt_self (by omega) (by omega))]
      show ((u / b : Nat) : Int) * (b : Int) + ((wN (UInt8.ofNat (digN (u % b))).toNat : Nat) : Int) = _
      have hm := Nat.mod_lt u (by omega : 0 < b)
      rw [digN_u8, wN_dig (by omega)]
      have e := Nat.div_add_mod u b
      have e2 : u / b * b + u % b = u := by rw [Nat.mul_comm]; exact e
      exact_mod_cast e2
    · rw [usF_low (by omega)]
      show (0 : Int) * (b : Int) + ((wN (UInt8.ofNat (digN u)).toNat : Nat) : Int) = _
      rw [digN_u8, wN_dig (by omega)]
      omega
/-- Its first sign is a digit's. -/
theorem us_head {b : Nat} (h2 : 2 ≤ b) (h36 : b ≤ 36) (u : Nat) : ∃ c r, usF b u = c :: r ∧ ((48 ≤ c.toNat ∧ c.toNat ≤ 57) ∨ (65 ≤ c.toNat ∧ c.toNat ≤ 90)) := by
  cases h : usF b u with
  | nil => exact absurd h us_ne
  | cons c r =>
    refine ⟨c, r, rfl, ?_⟩
    obtain ⟨k, hk, rfl⟩ := us_all h2 h36 u c (by rw [h]; simp)
    rw [digN_u8]
    exact digN_is (by omega)

theorem quote_no {l : List UInt8} (h : ∀ c r, l = c :: r → c ≠ 39) : quoteF l = none := by
  unfold quoteF
  split
  · rename_i a c d
    rw [if_neg]
    intro hh
    exact h a [c, d] rfl hh.1
  · rfl
theorem end_yes {neg : Bool} {b : Int} {l : List UInt8} (h : l ≠ []) (hw : ∀ c ∈ l, isW c.toNat b = true) : endF neg b l = some (if neg = true then wrap64 (0 - valF b 0 l) else wrap64 (valF b 0 l)) := by
  unfold endF
  rw [if_neg h]
  have := readF_val (n := 0) hw
  rw [show wrap64 0 = 0 from w64_id (by omega) (by omega)] at this
  rw [this]
  rw [Option.map_some]
  cases neg with
  | false => rw [if_neg (by simp), if_neg (by simp)]
  | true =>
    rw [if_pos rfl, if_pos rfl]
    congr 1
    apply w64_eq
    rw [Int.sub_emod, w64_mod, ← Int.sub_emod]
/-- A sign that is neither mark nor minus nor quote. -/
def plainC (c : UInt8) : Prop := c ≠ 35 ∧ c ≠ 36 ∧ c ≠ 37 ∧ c ≠ 39 ∧ c ≠ 45
theorem plainC_of {c : UInt8} (h : 48 ≤ c.toNat) : plainC c := by
  refine ⟨?_, ?_, ?_, ?_, ?_⟩ <;> intro e <;> subst e <;> simp at h
theorem parse_plain {c : UInt8} {r : List UInt8} {b : Int} (h : plainC c) : parseF (c :: r) b = endF false b (c :: r) := by
  obtain ⟨h1, h2, h3, h4, h5⟩ := h
  unfold parseF
  rw [quote_no (fun a t e => by injection e with e; rw [← e]; exact h4)]
  simp [markF, minF, h1, h2, h3, h5]
/-- What is shown without a sign is read. -/
theorem end_us {neg : Bool} {b u : Nat} (h2 : 2 ≤ b) (h36 : b ≤ 36) : endF neg (b : Int) (usF b u) = some (if neg = true then wrap64 (0 - (u : Int)) else wrap64 (u : Int)) := by
  rw [end_yes us_ne (us_isW h2 h36 u), us_val h2 h36]
theorem parse_us {b u : Nat} (h2 : 2 ≤ b) (h36 : b ≤ 36) : parseF (usF b u) (b : Int) = some (wrap64 (u : Int)) := by
  obtain ⟨c, r, e, h⟩ := us_head h2 h36 u
  have h1 : parseF (usF b u) (b : Int) = endF false (b : Int) (usF b u) := by rw [e]; exact parse_plain (plainC_of (by omega))
  rw [h1, end_us h2 h36, if_neg (by simp)]
theorem wrap_unN {n : Int} (h0 : -9223372036854775808 ≤ n) (h1 : n ≤ 9223372036854775807) : wrap64 ((un n : Nat) : Int) = n := by
  have := un_mod n
  unfold wrap64
  omega
/-- How many digits. -/
def lenN (b u : Nat) : Nat := if h : 2 ≤ b ∧ b ≤ u then lenN b (u / b) + 1 else 1
termination_by u
decreasing_by exact Nat.div_lt_self (by omega) (by omega)
theorem us_len (b : Nat) (h2 : 2 ≤ b) : ∀ u, (usF b u).length = lenN b u := by
  intro u
  induction u using Nat.strongRecOn with
  | ind u ih =>
    rw [lenN]
    by_cases h : b ≤ u
    · rw [dif_pos ⟨h2, h⟩, usF_big h2 h, List.length_append, ih (u / b) (Nat.div_lt_self (by omega) (by omega))]
      rfl
    · rw [dif_neg (by omega), usF_low (by omega)]
      rfl
theorem us_first {b : Nat} (h2 : 2 ≤ b) (h36 : b ≤ 36) : ∀ u, 0 < u → ∃ c r, usF b u = c :: r ∧ c ≠ 48 := by
  intro u
  induction u using Nat.strongRecOn with
  | ind u ih =>
    intro hu
    by_cases h : b ≤ u
    · obtain ⟨c, r, e, hc⟩ := ih (u / b) (Nat.div_lt_self (by omega) (by omega)) (Nat.div_pos h (by omega))
      exact ⟨c, r ++ [UInt8.ofNat (digN (u % b))], by rw [usF_big h2 h, e]; rfl, hc⟩
    · refine ⟨UInt8.ofNat (digN u), [], usF_low (by omega), ?_⟩
      intro e
      have := congrArg UInt8.toNat e
      rw [digN_u8] at this
      have h3 : digN u = 48 := this
      unfold digN at h3
      split at h3
      · omega
      · split at h3 <;> omega
end Go.Proofs.Ytphbeghflbkpgaa

/- Plain arithmetic of cells: quotients rounded to 0, products of cells read with a sign and without one, pairs. No model's run is named here. -/
namespace Go.Proofs.Ytphbeghflbkpgaa
open Go.RowKit

theorem un_zero {a : Int} (h : cellR a) : un a = 0 ↔ a = 0 := by unfold cellR at h; have := un_mod a; omega

end Go.Proofs.Ytphbeghflbkpgaa

/- What the calls of package pic answer, as plain functions, by the document's own words. -/
namespace Go.Proofs.Ytphbeghflbkpgaa
open Go.RowKit
set_option linter.unusedVariables false
set_option linter.unusedSimpArgs false

/-- Is a text under way right: its signs l, whether it was begun o. -/
def pRight (o : Bool) (l : List UInt8) : Bool := decide (l.length ≤ 130 ∧ (o = true ∨ l = []))
theorem pRight_iff (o : Bool) (l : List UInt8) : pRight o l = true ↔ (l.length ≤ 130 ∧ (o = true ∨ l = [])) := by unfold pRight; simp
theorem pRight_no (o : Bool) (l : List UInt8) : pRight o l = false ↔ ¬ (l.length ≤ 130 ∧ (o = true ∨ l = [])) := by unfold pRight; rw [decide_eq_false_iff_not]
def pSame (o : Bool) (l : List UInt8) (o' : Bool) (l' : List UInt8) : Bool := decide (o = o' ∧ l = l')
/-- Has it room for a sign? -/
def pOpen (o : Bool) (l : List UInt8) : Bool := decide (o = true ∧ l.length < 130)
theorem pOpen_iff (o : Bool) (l : List UInt8) : pOpen o l = true ↔ (o = true ∧ l.length < 130) := by unfold pOpen; simp
theorem pOpen_no (o : Bool) (l : List UInt8) : pOpen o l = false ↔ ¬ (o = true ∧ l.length < 130) := by unfold pOpen; rw [decide_eq_false_iff_not]
/-- A cell's lowest 8 bits. -/
def byteI (c : Int) : UInt8 := UInt8.ofNat (c % 256).toNat
theorem byteI_nat (c : Int) : ((byteI c).toNat : Int) = c % 256 := by
  unfold byteI
  rw [UInt8.toNat_ofNat']
  omega
def holdL (o : Bool) (l : List UInt8) (c : Int) : List UInt8 := if pOpen o l = true then l ++ [byteI c] else l
def holdC (o : Bool) (l : List UInt8) : Int := if pOpen o l = true then 0 else -17
/-- A pair of cells without a sign; and a number as a pair. -/
def pairN (lo hi : Int) : Nat := un hi * 18446744073709551616 + un lo
def lowI (P : Nat) : Int := wrap64 ((P % 18446744073709551616 : Nat) : Int)
def highI (P : Nat) : Int := wrap64 ((P / 18446744073709551616 : Nat) : Int)
def digOK (o : Bool) (l : List UInt8) (b : Int) : Bool := baseB b && pOpen o l
def digU (lo hi b : Int) : UInt8 := UInt8.ofNat (digN (pairN lo hi % b.toNat))
def digL (o : Bool) (l : List UInt8) (lo hi b : Int) : List UInt8 := if digOK o l b = true then l ++ [digU lo hi b] else l
def digLo (o : Bool) (l : List UInt8) (lo hi b : Int) : Int := if digOK o l b = true then lowI (pairN lo hi / b.toNat) else lo
def digHi (o : Bool) (l : List UInt8) (lo hi b : Int) : Int := if digOK o l b = true then highI (pairN lo hi / b.toNat) else hi
def digC (o : Bool) (l : List UInt8) (b : Int) : Int := if baseB b = true then holdC o l else -24
/-- All digits of a pair, the first one first. -/
def figs (lo hi b : Int) : List UInt8 := usF b.toNat (pairN lo hi)
def allOK (o : Bool) (l : List UInt8) (lo hi b : Int) : Bool := baseB b && decide (o = true ∧ l.length + (figs lo hi b).length ≤ 130)
def allL (o : Bool) (l : List UInt8) (lo hi b : Int) : List UInt8 := if allOK o l lo hi b = true then l ++ (figs lo hi b).reverse else l
def allC (o : Bool) (l : List UInt8) (lo hi b : Int) : Int := if baseB b = true then (if allOK o l lo hi b = true then 0 else -17) else -24
def signL (o : Bool) (l : List UInt8) (n : Int) : List UInt8 := if n < 0 then holdL o l 45 else l
def signC (o : Bool) (l : List UInt8) (n : Int) : Int := if n < 0 then holdC o l else 0
def endL (o : Bool) (l : List UInt8) : List UInt8 := if o = true then l.reverse else []
def endC (o : Bool) : Int := if o = true then 0 else -17

theorem cellR_of_rng {n : Int} (h0 : -9223372036854775808 ≤ n) (h1 : n ≤ 9223372036854775807) : cellR n := ⟨h0, h1⟩
theorem pcell_wrap (n : Int) : cellR (wrap64 n) := by unfold cellR wrap64; omega
theorem signL_len (o : Bool) (l : List UInt8) (n : Int) : (signL o l n).length ≤ l.length + 1 := by
  unfold signL holdL
  split
  · split
    · simp
    · omega
  · omega
theorem pairN_lt (lo hi : Int) : pairN lo hi < 340282366920938463463374607431768211456 := by
  unfold pairN
  have := un_lt lo
  have := un_lt hi
  omega
theorem un_low (P : Nat) : un (lowI P) = P % 18446744073709551616 := by
  have := un_mod (lowI P)
  unfold lowI wrap64 at *
  omega
theorem un_high {P : Nat} (h : P < 340282366920938463463374607431768211456) : un (highI P) = P / 18446744073709551616 := by
  have := un_mod (highI P)
  unfold highI wrap64 at *
  omega
theorem pair_back {P : Nat} (h : P < 340282366920938463463374607431768211456) : pairN (lowI P) (highI P) = P := by
  unfold pairN
  rw [un_low, un_high h]
  omega
theorem low_rng (P : Nat) : -9223372036854775808 ≤ lowI P ∧ lowI P ≤ 9223372036854775807 := by unfold lowI wrap64; omega
theorem high_rng (P : Nat) : -9223372036854775808 ≤ highI P ∧ highI P ≤ 9223372036854775807 := by unfold highI wrap64; omega
theorem low_pair {lo hi : Int} (h0 : -9223372036854775808 ≤ lo) (h1 : lo ≤ 9223372036854775807) : lowI (pairN lo hi) = lo := by
  have := un_mod lo
  unfold lowI pairN wrap64
  omega
theorem high_pair {lo hi : Int} (h0 : -9223372036854775808 ≤ hi) (h1 : hi ≤ 9223372036854775807) : highI (pairN lo hi) = hi := by
  have := un_mod hi
  have := un_lt lo
  unfold highI pairN wrap64
  omega
theorem pair_zero {lo hi : Int} (h0 : cellR lo) (h1 : cellR hi) : pairN lo hi = 0 ↔ lo = 0 ∧ hi = 0 := by
  have := un_zero h0
  have := un_zero h1
  unfold pairN
  omega
end Go.Proofs.Ytphbeghflbkpgaa

/- What the calls of package mem answer, as plain functions of lists, by the document's own words. -/
namespace Go.Proofs.Ytphbeghflbkpgaa
open Go.RowKit

/-- A patch: a place, and the bytes that stood there. A memory: its bytes, and its patches. -/
abbrev Pt := Int × List UInt8
abbrev PM := List UInt8 × List Pt

/-- Are n bytes at a place there, of L bytes? -/
def okB (L : Nat) (p n : Int) : Bool := decide (n = 0 ∨ 0 < n ∧ 0 ≤ p ∧ p ≤ (L : Int) - n)
def textF (m : PM) (p n : Int) : List UInt8 := if okB m.1.length p n then (m.1.drop p.toNat).take n.toNat else []
/-- Bytes that are laid into a row from a place on. -/
def layF (row : List UInt8) (p : Int) (b : List UInt8) : List UInt8 := splice row p.toNat b
def writeF (m : PM) (p : Int) (b : List UInt8) : PM := if okB m.1.length p b.length = true ∧ b ≠ [] then (layF m.1 p b, m.2 ++ [(p, textF m p b.length)]) else m
/-- Patches undone, the last one first. -/
def undo (ps : List Pt) (row : List UInt8) : List UInt8 := ps.foldr (fun q r => layF r q.1 q.2) row
def backOk (m : PM) (k : Int) : Bool := decide (0 ≤ k ∧ k ≤ (m.2.length : Int))
def backF (m : PM) (k : Int) : PM := if backOk m k = true then (undo (m.2.drop k.toNat) m.1, m.2.take k.toNat) else m
def backC (m : PM) (k : Int) : Int := if backOk m k = true then 0 else -24

def rightP (L : Nat) (q : Pt) : Bool := okB L q.1 q.2.length
def rightB (m : PM) : Bool := decide (m.1.length ≤ 65536) && decide (m.1.length % 8 = 0) && m.2.all (rightP m.1.length)
/-- Why there is no cell at a place, or 0. -/
def cellC (L : Nat) (p : Int) : Int := if okB L p 8 = true then (if p % 8 = 0 then 0 else -23) else -9
def newOk (n : Int) : Bool := decide (8 ≤ n ∧ n ≤ 65536 ∧ n % 8 = 0)

end Go.Proofs.Ytphbeghflbkpgaa

/- The head of the texts on layer 3: what each walk brings along. -/
namespace Go.Proofs.Ytphbeghflbkpgaa
open Go.RowKit

theorem ret_int {k : IntKind} {a b : Int} (h : a = b) : Ending.returned (.int k a) = .returned (.int k b) := by rw [h]
theorem ret_bool {a b : Bool} (h : a = b) : Ending.returned (.bool a) = .returned (.bool b) := by rw [h]
theorem ret_two {k l : IntKind} {a b c d : Int} (h : a = c) (g : b = d) : Ending.returned (.tuple #[.int k a, .int l b]) = .returned (.tuple #[.int k c, .int l d]) := by rw [h, g]
theorem ret_three {k l m : IntKind} {a b c d e f : Int} (h : a = d) (g : b = e) (i : c = f) : Ending.returned (.tuple #[.int k a, .int l b, .int m c]) = .returned (.tuple #[.int k d, .int l e, .int m f]) := by rw [h, g, i]
theorem ret_ib {k : IntKind} {a c : Int} {b d : Bool} (h : a = c) (g : b = d) : Ending.returned (.tuple #[.int k a, .bool b]) = .returned (.tuple #[.int k c, .bool d]) := by rw [h, g]
theorem drew_below (w : World) (n : Nat) : Below w.heap.size w (w.drewN n) := ⟨rfl, rfl, rfl, Nat.le_refl _, fun _ _ => rfl⟩

end Go.Proofs.Ytphbeghflbkpgaa

/- Contracts of gather and spread of package cell: a number out of its bytes, and its bytes. -/
namespace Go.Proofs.Ytphbeghflbkpgaa
open Go.RowKit

/-- A number's byte, the lowest first. -/
def byteOf (n i : Nat) : Nat := n / 256 ^ i % 256
/-- The number of eight bytes, the lowest first. -/
def eight (x0 x1 x2 x3 x4 x5 x6 x7 : Nat) : Nat := x0 + x1 * 256 + x2 * 65536 + x3 * 16777216 + x4 * 4294967296 + x5 * 1099511627776 + x6 * 281474976710656 + x7 * 72057594037927936
end Go.Proofs.Ytphbeghflbkpgaa

/- Contracts of Put and Get of package cell. -/
namespace Go.Proofs.Ytphbeghflbkpgaa
open Go.RowKit

theorem two_new (w1 : World) (a b : Array Value) (s t : TypeId) : ((w1.alloc (.cells a s)).alloc (.cells b t)).heap[w1.heap.size + 1]? = some (.cells b t (0, 0)) ∧ ((w1.alloc (.cells a s)).alloc (.cells b t)).heap[w1.heap.size]? = some (.cells a s (0, 0)) := by
  constructor
  · show ((w1.heap.push (.cells a s)).push (.cells b t))[w1.heap.size + 1]? = _
    rw [Array.getElem?_push, if_pos (by simp)]
  · show ((w1.heap.push (.cells a s)).push (.cells b t))[w1.heap.size]? = _
    simp [Array.getElem?_push]

end Go.Proofs.Ytphbeghflbkpgaa

/- The contract of Get of package cell. -/
namespace Go.Proofs.Ytphbeghflbkpgaa
open Go.RowKit

theorem one_new (w : World) (c : Array Value) (t : TypeId) : (w.alloc (.cells c t)).heap[w.heap.size]? = some (.cells c t (0, 0)) := (MapKept.heap_alloc w _).1

end Go.Proofs.Ytphbeghflbkpgaa

/- How bytes, patches and memories lie in a world; and that they lie on behind calls that make memory of their own. -/
namespace Go.Proofs.Ytphbeghflbkpgaa
open Go.RowKit

theorem below_then {w w1 w2 : World} (h : Below w.heap.size w w1) (k : Below w1.heap.size w1 w2) : Below w.heap.size w w2 := h.trans (k.mono h.size)

def u8s (l : List UInt8) : List Value := l.map fun b => .int .u8 (b.toNat : Int)
theorem u8s_len (l : List UInt8) : (u8s l).length = l.length := by simp [u8s]
theorem u8s_one (l : List UInt8) : ∀ v ∈ u8s l, v.oneCell' = true := by
  intro v hv
  unfold u8s at hv
  rw [List.mem_map] at hv
  obtain ⟨b, _, rfl⟩ := hv
  rfl
theorem u8s_at {l : List UInt8} {j : Nat} (h : j < l.length) : (u8s l)[j]? = some (.int .u8 ((l[j]).toNat : Int)) := by simp [u8s, h]
theorem u8s_app (a b : List UInt8) : u8s (a ++ b) = u8s a ++ u8s b := by simp [u8s]
/-- A row of cells lies at an address. -/
def Lies (w : World) (A : Option Addr) (xs : List Value) : Prop :=
  xs = [] ∨ ∃ g o, A = some ⟨g, o, none⟩ ∧ g < w.heap.size ∧ ∀ j v, xs[j]? = some v → w.cell? ⟨g, o + j, none⟩ = some v
theorem add_at (g o j : Nat) : (⟨g, o, none⟩ : Addr).add j = ⟨g, o + j, none⟩ := by unfold Addr.add; split <;> simp_all
theorem Lies.keep {w w' : World} {A : Option Addr} {xs : List Value} (h : Lies w A xs) (b : Below w.heap.size w w') : Lies w' A xs := by
  rcases h with h | ⟨g, o, hA, hg, hc⟩
  · exact .inl h
  · exact .inr ⟨g, o, hA, Nat.lt_of_lt_of_le hg b.size, fun j v hv => (b.cell (p := ⟨g, o + j, none⟩) hg).trans (hc j v hv)⟩
theorem Lies.part {w : World} {g o : Nat} {xs : List Value} (h : Lies w (some ⟨g, o, none⟩) xs) (a n : Nat) : Lies w (some ⟨g, o + a, none⟩) ((xs.drop a).take n) := by
  rcases h with rfl | ⟨g', o', hA, hg, hc⟩
  · exact .inl (by simp)
  · injection hA with hA
    injection hA with e1 e2
    subst e1 e2
    refine .inr ⟨g, o + a, rfl, hg, fun j v hv => ?_⟩
    rw [List.getElem?_take] at hv
    split at hv
    · rw [List.getElem?_drop] at hv
      rw [Nat.add_assoc]
      exact hc _ _ hv
    · cases hv
theorem lies_block {w : World} {g : Nat} {xs : List Value} {t : TypeId} (h : w.heap[g]? = some (.cells xs.toArray t (0, 0))) : Lies w (some ⟨g, 0, none⟩) xs := by
  refine .inr ⟨g, 0, rfl, (Array.getElem?_eq_some_iff.1 h).1, fun j v hv => ?_⟩
  rw [Nat.zero_add]
  simp [World.cell?, h, hv]

/-- A slice of bytes. -/
def Byt (w : World) (v : Value) (l : List UInt8) : Prop := ∃ A c, v = .slice A l.length c ∧ l.length ≤ c ∧ c ≤ maxLen ∧ Lies w A (u8s l)
theorem Byt.keep {w w' : World} {v : Value} {l : List UInt8} (h : Byt w v l) (b : Below w.heap.size w w') : Byt w' v l := by
  obtain ⟨A, c, h1, h2, h3, h4⟩ := h
  exact ⟨A, c, h1, h2, h3, h4.keep b⟩
theorem byt_block {w : World} {g : Nat} {l : List UInt8} {t : TypeId} (h : w.heap[g]? = some (.cells (u8s l).toArray t (0, 0))) (hl : l.length ≤ 65536) : Byt w (.slice (some ⟨g, 0, none⟩) l.length l.length) l :=
  ⟨_, _, rfl, Nat.le_refl _, by unfold maxLen; omega, lies_block h⟩
theorem byt_nil (w : World) : Byt w (.slice none 0 0) [] := ⟨none, 0, rfl, Nat.le_refl _, Nat.zero_le _, .inl rfl⟩

/-- The cells of patches. -/
abbrev Qt := Int × Value
def pc (qs : List Qt) : List Value := qs.flatMap fun q => [.int .i64 q.1, q.2]
theorem pc_cons (q : Qt) (qs : List Qt) : pc (q :: qs) = .int .i64 q.1 :: q.2 :: pc qs := rfl
/-- Cells of patches tell patches. -/
def Tells (w : World) (qs : List Qt) (ps : List Pt) : Prop := qs.length = ps.length ∧ ∀ (i : Nat) (q : Qt) (p : Pt), qs[i]? = some q → ps[i]? = some p → q.1 = p.1 ∧ Byt w q.2 p.2
theorem Tells.keep {w w' : World} {qs : List Qt} {ps : List Pt} (h : Tells w qs ps) (b : Below w.heap.size w w') : Tells w' qs ps :=
  ⟨h.1, fun i q p hq hp => ⟨(h.2 i q p hq hp).1, (h.2 i q p hq hp).2.keep b⟩⟩
theorem Tells.take {w : World} {qs : List Qt} {ps : List Pt} (h : Tells w qs ps) (k : Nat) : Tells w (qs.take k) (ps.take k) := by
  refine ⟨by simp [h.1], fun i q r hq hr => ?_⟩
  rw [List.getElem?_take] at hq hr
  split at hq
  · rename_i hk
    rw [if_pos hk] at hr
    exact h.2 i q r hq hr
  · cases hq
theorem Tells.drop {w : World} {qs : List Qt} {ps : List Pt} (h : Tells w qs ps) (k : Nat) : Tells w (qs.drop k) (ps.drop k) := by
  refine ⟨by simp [h.1], fun i q r hq hr => ?_⟩
  rw [List.getElem?_drop] at hq hr
  exact h.2 _ q r hq hr
/-- A slice of patches. -/
def Pats (w : World) (v : Value) (ps : List Pt) : Prop := ∃ A c qs, v = .slice A ps.length c ∧ ps.length ≤ c ∧ c ≤ maxLen ∧ Lies w A (pc qs) ∧ Tells w qs ps
theorem Pats.keep {w w' : World} {v : Value} {ps : List Pt} (h : Pats w v ps) (b : Below w.heap.size w w') : Pats w' v ps := by
  obtain ⟨A, c, qs, h1, h2, h3, h4, h5⟩ := h
  exact ⟨A, c, qs, h1, h2, h3, h4.keep b, h5.keep b⟩
/-- A memory. -/
def IsMem (w : World) (v : Value) (m : PM) : Prop := ∃ b o, v = .agg #[b, o] ∧ Byt w b m.1 ∧ Pats w o m.2
theorem IsMem.keep {w w' : World} {v : Value} {m : PM} (h : IsMem w v m) (b : Below w.heap.size w w') : IsMem w' v m := by
  obtain ⟨x, y, h1, h2, h3⟩ := h
  exact ⟨x, y, h1, h2.keep b, h3.keep b⟩
theorem IsMem.parts {w : World} {v : Value} {m : PM} (h : IsMem w v m) : ∃ A c P d, v = .agg #[.slice A m.1.length c, .slice P m.2.length d] ∧ Byt w (.slice A m.1.length c) m.1 ∧ Pats w (.slice P m.2.length d) m.2 := by
  obtain ⟨x, y, rfl, hb, hp⟩ := h
  have hb' := hb
  have hp' := hp
  obtain ⟨A, c, rfl, _⟩ := hb
  obtain ⟨P, d, qs, rfl, _⟩ := hp
  exact ⟨A, c, P, d, rfl, hb', hp'⟩

/-- One block alone was written. -/
structure RowSet (g : Nat) (w w' : World) : Prop where
  os : w'.os = w.os
  tape : w'.tape = w.tape
  output : w'.output = w.output
  size : w'.heap.size = w.heap.size
  other : ∀ k, k ≠ g → w'.heap[k]? = w.heap[k]?
theorem RowSet.refl (g : Nat) (w : World) : RowSet g w w := ⟨rfl, rfl, rfl, rfl, fun _ _ => rfl⟩
theorem RowSet.trans {g : Nat} {a b c : World} (h : RowSet g a b) (k : RowSet g b c) : RowSet g a c :=
  ⟨k.os.trans h.os, k.tape.trans h.tape, k.output.trans h.output, k.size.trans h.size, fun i hi => (k.other i hi).trans (h.other i hi)⟩
theorem RowSet.cell {g : Nat} {w w' : World} (h : RowSet g w w') {b o : Nat} (hb : b ≠ g) : w'.cell? ⟨b, o, none⟩ = w.cell? ⟨b, o, none⟩ := World.cell?_of_block (h.other b hb)
end Go.Proofs.Ytphbeghflbkpgaa

/- Contracts of there, lay, own (of bytes) of package mem, and of the document's There. -/
namespace Go.Proofs.Ytphbeghflbkpgaa
open Go.RowKit
set_option linter.unusedVariables false

theorem info_u8 : (Try.prog.info? 5).map (fun i => (i.zero, i.size, i.bytes)) = some (some (.int .u8 0), 1, 1) := by kernel_rfl

theorem hpos_of {w : World} {A : Option Addr} {xs : List Value} (h : Lies w A xs) {w' : World} (b : Below w.heap.size w w') (hx : 0 < xs.length) : ∃ ad, A = some ad ∧ ∀ j v, xs[j]? = some v → w'.cell? (ad.add j) = some v := by
  rcases h.keep b with rfl | ⟨g, o, rfl, _, hc⟩
  · simp at hx
  · exact ⟨_, rfl, fun j v hv => by rw [add_at]; exact hc j v hv⟩

end Go.Proofs.Ytphbeghflbkpgaa

/- Contracts of Text of package mem, and of the document's There. -/
namespace Go.Proofs.Ytphbeghflbkpgaa
open Go.RowKit

theorem box_below {w w1 : World} {o : Obj} (b : Below (w.alloc o).heap.size (w.alloc o) w1) : Below w.heap.size w w1 := ((Below.refl _ w).alloc (Nat.le_refl _) o).trans (b.mono (by simp))

end Go.Proofs.Ytphbeghflbkpgaa

/- The contract of Write of package mem. -/
namespace Go.Proofs.Ytphbeghflbkpgaa
open Go.RowKit

/-- A block of two cells. -/
def Box (w : World) (b : Nat) (x y : Value) (t : TypeId) : Prop := w.heap[b]? = some (.cells #[x, y] t (0, 0))
theorem Box.lt {w : World} {b : Nat} {x y : Value} {t : TypeId} (h : Box w b x y t) : b < w.heap.size := (Array.getElem?_eq_some_iff.1 h).1
theorem Box.keep {w w' : World} {b : Nat} {x y : Value} {t : TypeId} (h : Box w b x y t) (k : Below w.heap.size w w') : Box w' b x y t := (k.block b h.lt).trans h
theorem Box.row {w w' : World} {b g : Nat} {x y : Value} {t : TypeId} (h : Box w b x y t) (k : RowSet g w w') (hb : b ≠ g) : Box w' b x y t := (k.other b hb).trans h
theorem Box.use {w : World} {b : Nat} {x y : Value} {t : TypeId} (h : Box w b x y t) : w.cell? ⟨b, 0, none⟩ = some x ∧ w.cell? ⟨b, 1, none⟩ = some y ∧ w.frozen? ⟨b, 0, none⟩ = false ∧ w.frozen? ⟨b, 1, none⟩ = false := by
  unfold Box at h
  refine ⟨?_, ?_, ?_, ?_⟩ <;> simp [World.cell?, World.frozen?, h]
theorem box_new (w : World) (x y : Value) (t : TypeId) : Box (w.alloc (.cells #[x, y] t)) w.heap.size x y t := one_new w _ t
theorem box_two (w : World) (x y x' y' : Value) (t t' : TypeId) : Box ((w.alloc (.cells #[x, y] t)).alloc (.cells #[x', y'] t')) w.heap.size x y t ∧ Box ((w.alloc (.cells #[x, y] t)).alloc (.cells #[x', y'] t')) (w.heap.size + 1) x' y' t' :=
  ⟨(two_new w _ _ _ _).2, (two_new w _ _ _ _).1⟩
theorem Box.put {w : World} {b : Nat} {x y : Value} {t : TypeId} (h : Box w b x y t) (x' y' : Value) : Box ((w.setCell ⟨b, 0, none⟩ x').setCell ⟨b, 1, none⟩ y') b x' y' t := by
  have h1 : (w.setCell ⟨b, 0, none⟩ x').heap[b]? = some (.cells (#[x, y].setIfInBounds 0 x') t (0, 0)) := Go.Joins.block_setCell h x'
  have h2 := Go.Joins.block_setCell (i := 1) h1 y'
  simpa [Box] using h2
theorem Box.got {w : World} {b : Nat} {x y : Value} {t : TypeId} (h : Box w b x y t) (x' y' : Value) : (w.setCell ⟨b, 0, none⟩ x').cell? ⟨b, 0, none⟩ = some x' ∧ ((w.setCell ⟨b, 0, none⟩ x').setCell ⟨b, 1, none⟩ y').cell? ⟨b, 1, none⟩ = some y' := by
  constructor
  · have h1 : (w.setCell ⟨b, 0, none⟩ x').heap[b]? = some (.cells (#[x, y].setIfInBounds 0 x') t (0, 0)) := Go.Joins.block_setCell h x'
    simp [World.cell?, h1]
  · exact (h.put x' y').use.2.1
theorem Byt.len {w : World} {A : Option Addr} {n c : Nat} {l : List UInt8} (h : Byt w (.slice A n c) l) : l.length = n := by
  obtain ⟨A', c', e, _⟩ := h
  injection e with _ e _
  exact e.symm
theorem Byt.lies {w : World} {A : Option Addr} {n c : Nat} {l : List UInt8} (h : Byt w (.slice A n c) l) : Lies w A (u8s l) := by
  obtain ⟨A', c', e, _, _, hl⟩ := h
  injection e with e _ _
  subst e
  exact hl
theorem Byt.form {w : World} {u : Value} {l : List UInt8} (h : Byt w u l) : ∃ A c, u = .slice A l.length c := by
  obtain ⟨A, c, e, _⟩ := h
  exact ⟨A, c, e⟩
theorem IsMem.byt {w : World} {x y : Value} {m : PM} (h : IsMem w (.agg #[x, y]) m) : Byt w x m.1 := by
  obtain ⟨x', y', e, hb, _⟩ := h
  injection e with e
  simp at e
  rw [e.1]
  exact hb
theorem Box.two {w : World} {b : Nat} {A P : Option Addr} {n c k d : Nat} {t : TypeId} (h : Box w b (.slice A n c) (.slice P k d) t) {o : Nat} {v : Value} (hc : w.cell? ⟨b, o, none⟩ = some v) : ∃ A n c, v = .slice A n c := by
  unfold Box at h
  simp [World.cell?, h] at hc
  match o, hc with
  | 0, hc => simp at hc; exact ⟨_, _, _, hc.symm⟩
  | 1, hc => simp at hc; exact ⟨_, _, _, hc.symm⟩
  | o + 2, hc => simp at hc
/-- A write into a block of two slices touches neither bytes nor patches. -/
theorem Lies.row {w w' : World} {b : Nat} {A P A' : Option Addr} {n c k d : Nat} {t : TypeId} {xs : List Value} (h : Lies w A' xs) (hb : Box w b (.slice A n c) (.slice P k d) t) (rs : RowSet b w w') (hi : ∀ v r, xs = v :: r → ∃ q i, v = .int q i) : Lies w' A' xs := by
  rcases h with h | ⟨g, o, e, hg, hc⟩
  · exact .inl h
  · match xs, hi, hc with
    | [], _, _ => exact .inl rfl
    | v :: r, hi, hc =>
      have hne : g ≠ b := by
        intro e
        subst e
        obtain ⟨q, i, rfl⟩ := hi v r rfl
        obtain ⟨_, _, _, hv⟩ := hb.two (hc 0 _ rfl)
        cases hv
      exact .inr ⟨g, o, e, by rw [rs.size]; exact hg, fun j v hv => (rs.cell hne).trans (hc j v hv)⟩
theorem u8s_head (l : List UInt8) : ∀ v r, u8s l = v :: r → ∃ q i, v = Value.int q i := by
  intro v r h
  cases l with
  | nil => simp [u8s] at h
  | cons x l => simp [u8s] at h; exact ⟨_, _, h.1.symm⟩
theorem pc_head (qs : List Qt) : ∀ v r, pc qs = v :: r → ∃ q i, v = Value.int q i := by
  intro v r h
  cases qs with
  | nil => simp [pc] at h
  | cons x l => rw [pc_cons] at h; injection h with h _; exact ⟨_, _, h.symm⟩
theorem Byt.row {w w' : World} {b : Nat} {A P : Option Addr} {n c k d : Nat} {t : TypeId} {v : Value} {l : List UInt8} (h : Byt w v l) (hb : Box w b (.slice A n c) (.slice P k d) t) (rs : RowSet b w w') : Byt w' v l := by
  obtain ⟨A', c', h1, h2, h3, h4⟩ := h
  exact ⟨A', c', h1, h2, h3, h4.row hb rs (u8s_head l)⟩
theorem Tells.row {w w' : World} {b : Nat} {A P : Option Addr} {n c k d : Nat} {t : TypeId} {qs : List Qt} {ps : List Pt} (h : Tells w qs ps) (hb : Box w b (.slice A n c) (.slice P k d) t) (rs : RowSet b w w') : Tells w' qs ps :=
  ⟨h.1, fun i q p hq hp => ⟨(h.2 i q p hq hp).1, (h.2 i q p hq hp).2.row hb rs⟩⟩
theorem IsMem.row {w w' : World} {b : Nat} {A P : Option Addr} {n c k d : Nat} {t : TypeId} {v : Value} {m : PM} (h : IsMem w v m) (hb : Box w b (.slice A n c) (.slice P k d) t) (rs : RowSet b w w') : IsMem w' v m := by
  obtain ⟨x, y, h1, h2, A', c', qs, e, h3, h4, h5, h6⟩ := h
  exact ⟨x, y, h1, h2.row hb rs, A', c', qs, e, h3, h4, h5.row hb rs (pc_head qs), h6.row hb rs⟩
end Go.Proofs.Ytphbeghflbkpgaa

/- The document's own Text: bytes that are appended one by one. -/
namespace Go.Proofs.Ytphbeghflbkpgaa
open Go.RowKit

theorem own_byt {w : World} {base n : Nat} {v : Value} {l : List UInt8} (h : w.ownsRow base 5 1 v n (u8s l)) : Byt w v l := by
  have hl := h.1
  rw [u8s_len, Nat.mul_one] at hl
  subst hl
  rcases h.2 with ⟨rfl, h0⟩ | ⟨g, cap, cur, rfl, _, hg, hnc, hcm, _, ht⟩
  · have : l = [] := List.eq_nil_of_length_eq_zero h0
    subst this
    exact byt_nil w
  · refine ⟨some ⟨g, 0, none⟩, cap, rfl, hnc, hcm, .inr ⟨g, 0, rfl, (Array.getElem?_eq_some_iff.1 hg).1, fun j x hx => ?_⟩⟩
    rw [← ht, List.getElem?_take] at hx
    split at hx
    · rw [Nat.zero_add]
      simp [World.cell?, hg]
      simpa using hx
    · cases hx
theorem own_from {w : World} {base e size n : Nat} {v : Value} {xs : List Value} (h : w.ownsRow base e size v n xs) : ∀ k, v.ownBlock = some k → base ≤ k := fun k hk => (h.lt k hk).1

end Go.Proofs.Ytphbeghflbkpgaa

/- Contracts of the document's own Put and Get for layer 1; cells as bytes. -/
namespace Go.Proofs.Ytphbeghflbkpgaa
open Go.RowKit

/-- A cell's bytes. -/
def cellBytes (n : Int) : List UInt8 := [UInt8.ofNat (byteOf (un n) 0), UInt8.ofNat (byteOf (un n) 1), UInt8.ofNat (byteOf (un n) 2), UInt8.ofNat (byteOf (un n) 3), UInt8.ofNat (byteOf (un n) 4), UInt8.ofNat (byteOf (un n) 5), UInt8.ofNat (byteOf (un n) 6), UInt8.ofNat (byteOf (un n) 7)]
/-- The byte at a place, as a number; the cell at a place. -/
def bn (m : PM) (k : Nat) : Nat := (m.1.getD k 0).toNat
def fetchF (m : PM) (p : Int) : Int := if cellC m.1.length p = 0 then wrap64 (eight (bn m p.toNat) (bn m (p.toNat + 1)) (bn m (p.toNat + 2)) (bn m (p.toNat + 3)) (bn m (p.toNat + 4)) (bn m (p.toNat + 5)) (bn m (p.toNat + 6)) (bn m (p.toNat + 7)) : Int) else 0

end Go.Proofs.Ytphbeghflbkpgaa

/- Contracts of Mark, Free, New and Store of package mem. -/
namespace Go.Proofs.Ytphbeghflbkpgaa
open Go.RowKit

/-- A memory's two slices. -/
theorem IsMem.slices {w : World} {x y : Value} {m : PM} (h : IsMem w (.agg #[x, y]) m) : ∃ A n c P k d, x = .slice A n c ∧ y = .slice P k d := by
  obtain ⟨A, c, P, d, e, _, _⟩ := h.parts
  injection e with e
  simp at e
  exact ⟨A, _, c, P, _, d, e.1, e.2⟩

def newF (n : Int) : PM := if newOk n = true then (List.replicate n.toNat 0, []) else ([], [])
def newC (n : Int) : Int := if newOk n = true then 0 else -24
def storeF (m : PM) (p n : Int) : PM := if cellC m.1.length p = 0 then writeF m p (cellBytes n) else m
end Go.Proofs.Ytphbeghflbkpgaa

/- Contracts of bytes.Equal, samePatch, slices.EqualFunc and Same. -/
namespace Go.Proofs.Ytphbeghflbkpgaa
open Go.RowKit

/-- Bytes as a string. -/
def strB (l : List UInt8) : ByteArray := ⟨l.toArray⟩
theorem strB_inj {a b : List UInt8} (h : strB a = strB b) : a = b := by
  have : a.toArray = b.toArray := congrArg ByteArray.data h
  simpa using this
theorem str_ne {a b : ByteArray} (h : a ≠ b) : (a.toList == b.toList) = false := by
  rw [beq_eq_false_iff_ne]
  intro e
  rw [ByteArray.toList_eq, ByteArray.toList_eq] at e
  apply h
  cases a
  cases b
  congr 1
  exact Array.toList_inj.1 e
theorem Byt.conv {w : World} {A : Option Addr} {n c : Nat} {l : List UInt8} (h : Byt w (.slice A n c) l) : (convert 22 9 (.slice A n c)).run Try.prog w = .ok (.string (strB l)) w := by
  have hl := h.len
  subst hl
  rcases h.lies with e | ⟨g, o, rfl, _, hc⟩
  · have : l = [] := by
      have := congrArg List.length e
      rw [u8s_len] at this
      exact List.eq_nil_of_length_eq_zero this
    subst this
    rw [run_convert_bytes_string w 22 9 5 _ _ _ Try.underlying22 Try.underlying5 Try.underlying9]
    cases A <;> simp [Conv.bytesToString, loadCells, strB]
    all_goals rfl
  · refine run_convert_bytes_back w 22 9 5 ⟨g, o, none⟩ c l Try.underlying22 Try.underlying5 Try.underlying9 fun j hj => ?_
    rw [add_at]
    exact hc j _ (u8s_at hj)

set_option maxRecDepth 100000 in
set_option maxHeartbeats 1000000 in
theorem equal_any (A B : Option Addr) (n c k d : Nat) (l1 l2 : List UInt8) (w : World) (h1 : Byt w (.slice A n c) l1) (h2 : Byt w (.slice B k d) l2) :
    Calls Try.prog 30 #[.slice A n c, .slice B k d] w fun e w' => e = .returned (.bool (decide (l1 = l2))) ∧ w = w' := by
  have c1 := h1.conv
  have c2 := h2.conv
  have HD : Hid (l1 = l2 ↔ strB l1 = strB l2) := ⟨fun h => by rw [h], strB_inj⟩
  clear h1 h2
  by_cases he : l1 = l2
  · subst he
    have HE : Hid (decide (l1 = l1) = true) := by simp [Hid]
    generalize strB l1 = s at c1 c2
    clear HD
    go_enter Try.func30, Try.ntmps30
    go_wp2
    go_ret
    exact ⟨ret_bool HE.out.symm, rfl⟩
  · have HE : Hid (decide (l1 = l2) = false) := decide_eq_false he
    have hne : strB l1 ≠ strB l2 := fun h => he (strB_inj h)
    generalize strB l1 = s1 at c1 hne
    generalize strB l2 = s2 at c2 hne
    have hne' := str_ne hne
    clear HD he hne
    go_enter Try.func30, Try.ntmps30
    go_wp2
    go_ret
    exact ⟨ret_bool HE.out.symm, rfl⟩

theorem take_eq_step {α : Type} {a b : List α} {j : Nat} {p q : α} (h : a.take j = b.take j) (hp : a[j]? = some p) (hq : b[j]? = some q) (e : p = q) : a.take (j + 1) = b.take (j + 1) := by
  have h1 := (List.getElem?_eq_some_iff.1 hp)
  have h2 := (List.getElem?_eq_some_iff.1 hq)
  obtain ⟨i1, e1⟩ := h1
  obtain ⟨i2, e2⟩ := h2
  rw [List.take_succ_eq_append_getElem i1, List.take_succ_eq_append_getElem i2, h, e1, e2, e]
end Go.Proofs.Ytphbeghflbkpgaa

/- Texts as values: their bytes, one by one, and put together. -/
namespace Go.Proofs.Ytphbeghflbkpgaa
open Go.RowKit
set_option linter.unusedVariables false
set_option linter.unusedSimpArgs false

theorem strB_of (s : ByteArray) : strB s.data.toList = s := by
  cases s
  simp [strB]
theorem strB_size (l : List UInt8) : (strB l).size = l.length := rfl
theorem strB_app (a b : List UInt8) : strB a ++ strB b = strB (a ++ b) := by
  apply ByteArray.ext
  simp [strB, ByteArray.data_append]
theorem run_ix (l : List UInt8) (i : Nat) (h : i < l.length) (w : World) :
    (Instr.index 9 (.string (strB l)) (.int .i64 (i : Int))).run Try.prog w = .ok (.int .u8 ((l[i]).toNat : Int)) w := by
  have e : (strB l)[i]? = some l[i] := by
    have hs : i < (strB l).size := h
    rw [getElem?_pos (strB l) i hs]
    rfl
  simp [Instr.index, run_underlying Try.underlying9, asIntOf, e]
theorem one_newN (w1 : World) (b : Array Value) (t : TypeId) : (w1.alloc (.cells b t)).heap[w1.heap.size]? = some (.cells b t (0, 0)) := by
  show (w1.heap.push _)[w1.heap.size]? = _
  exact Array.getElem?_push_size
theorem conv_one (x : UInt8) (w : World) : (convert 22 9 (.slice (some ⟨w.heap.size, 0, none⟩) 1 1)).run Try.prog (w.alloc (.cells #[.int .u8 (x.toNat : Int)] 5)) = .ok (.string (strB [x])) (w.alloc (.cells #[.int .u8 (x.toNat : Int)] 5)) := by
  refine run_convert_bytes_back (w.alloc (.cells #[.int .u8 (x.toNat : Int)] 5)) 22 9 5 ⟨w.heap.size, 0, none⟩ 1 [x] Try.underlying22 Try.underlying5 Try.underlying9 fun j hj => ?_
  have h0 : j = 0 := by simp at hj; omega
  subst h0
  have h := one_newN w #[.int .u8 (x.toNat : Int)] 5
  rw [show (⟨w.heap.size, 0, none⟩ : Addr).add 0 = ⟨w.heap.size, 0, none⟩ from by simp [Addr.add]]
  unfold World.cell?
  rw [h]
  rfl
end Go.Proofs.Ytphbeghflbkpgaa

/- Contracts of the document's Digit and Worth. -/
namespace Go.Proofs.Ytphbeghflbkpgaa
open Go.RowKit
set_option linter.unusedVariables false
set_option linter.unusedSimpArgs false

set_option maxRecDepth 100000 in
set_option maxHeartbeats 4000000 in
theorem rdigit_any (n : Int) (w : World) :
    Calls Try.prog 37 #[.int .i64 n] w fun e w' => e = .returned (.int .u8 (digF n)) ∧ w = w' := by
  by_cases h0 : 0 ≤ n
  · by_cases h9 : n ≤ 9
    · have H : Hid (digF n = 48 + n) := by
        show _ = _
        unfold digF digN
        rw [if_pos h0, if_pos (by omega)]
        omega
      go_enter Try.func37, Try.ntmps37
      go_wp2
      go_ret
      exact ⟨ret_int H.out.symm, rfl⟩
    · have h9' : decide (n ≤ 9) = false := by simp; omega
      have h10 : 10 ≤ n := by omega
      by_cases h35 : n ≤ 35
      · have H : Hid (digF n = 55 + n) := by
          show _ = _
          unfold digF digN
          rw [if_pos h0, if_neg (by omega), if_pos (by omega)]
          omega
        clear h9
        go_enter Try.func37, Try.ntmps37
        go_wp2
        go_ret
        exact ⟨ret_int H.out.symm, rfl⟩
      · have h35' : decide (n ≤ 35) = false := by simp; omega
        have H : Hid (digF n = 63) := by
          show _ = _
          unfold digF digN
          rw [if_pos h0, if_neg (by omega), if_neg (by omega)]
          rfl
        clear h9 h35
        go_enter Try.func37, Try.ntmps37
        go_wp2
        go_ret
        exact ⟨ret_int H.out.symm, rfl⟩
  · have h0' : decide (0 ≤ n) = false := by simp; omega
    have h10' : decide (10 ≤ n) = false := by simp; omega
    have H : Hid (digF n = 63) := by
      show _ = _
      unfold digF
      rw [if_neg h0]
    clear h0
    go_enter Try.func37, Try.ntmps37
    go_wp2
    go_ret
    exact ⟨ret_int H.out.symm, rfl⟩

set_option maxRecDepth 100000 in
set_option maxHeartbeats 4000000 in
theorem rworth_any (c : Nat) (b : Int) (w : World) (hc : c < 256) :
    Calls Try.prog 28 #[.int .u8 (c : Int), .int .i64 b] w fun e w' => e = .returned (.tuple #[.int .i64 (worthF c b), .bool (isW c b)]) ∧ w = w' := by
  rcases (by omega : c < 48 ∨ (48 ≤ c ∧ c ≤ 57) ∨ (57 < c ∧ c < 65) ∨ (65 ≤ c ∧ c ≤ 90) ∨ (90 < c ∧ c < 97) ∨ (97 ≤ c ∧ c ≤ 122) ∨ 122 < c) with h | h | h | h | h | h | h
  · skip
    have n48 : decide ((48 : Int) ≤ (c : Int)) = false := by simp; omega
    have n65 : decide ((65 : Int) ≤ (c : Int)) = false := by simp; omega
    have n97 : decide ((97 : Int) ≤ (c : Int)) = false := by simp; omega
    have hv : Hid (((wN c : Nat) : Int) = 99) := by show _ = _; unfold wN; rw [if_neg (by omega), if_neg (by omega), if_neg (by omega)]; omega
    by_cases k1 : b < 2
    · skip
      have H2 : Hid (isW c b = false) := (isW_no _ _).2 (by have := hv.out; omega)
      have H1 : Hid (worthF c b = 0) := by show _ = _; unfold worthF; rw [H2.out]; rfl
      go_enter Try.func28, Try.ntmps28
      go_wp2
      go_ret2
      exact ⟨ret_ib H1.out.symm H2.out.symm, rfl⟩
    · have k1' : decide (b < 2) = false := by simp; omega
      by_cases k2 : 36 < b
      · skip
        have H2 : Hid (isW c b = false) := (isW_no _ _).2 (by have := hv.out; omega)
        have H1 : Hid (worthF c b = 0) := by show _ = _; unfold worthF; rw [H2.out]; rfl
        clear k1
        go_enter Try.func28, Try.ntmps28
        go_wp2
        go_ret2
        exact ⟨ret_ib H1.out.symm H2.out.symm, rfl⟩
      · have k2' : decide (36 < b) = false := by simp; omega
        by_cases k3 : b ≤ 99
        · skip
          have H2 : Hid (isW c b = false) := (isW_no _ _).2 (by have := hv.out; omega)
          have H1 : Hid (worthF c b = 0) := by show _ = _; unfold worthF; rw [H2.out]; rfl
          clear k1 k2
          go_enter Try.func28, Try.ntmps28
          go_wp2
          go_ret2
          exact ⟨ret_ib H1.out.symm H2.out.symm, rfl⟩
        · have k3' : decide (b ≤ 99) = false := by simp; omega
          have H2 : Hid (isW c b = true) := (isW_iff _ _).2 (by have := hv.out; omega)
          have H1 : Hid (worthF c b = 99) := by show _ = _; unfold worthF; rw [H2.out]; exact hv.out
          clear k1 k2 k3
          go_enter Try.func28, Try.ntmps28
          go_wp2
          go_ret2
          exact ⟨ret_ib H1.out.symm H2.out.symm, rfl⟩
  · skip
    have g48 : (48 : Int) ≤ (c : Int) := by omega
    have l57 : (c : Int) ≤ 57 := by omega
    have n65 : decide ((65 : Int) ≤ (c : Int)) = false := by simp; omega
    have n97 : decide ((97 : Int) ≤ (c : Int)) = false := by simp; omega
    have hv : Hid (((wN c : Nat) : Int) = (c : Int) - 48) := by show _ = _; unfold wN; rw [if_pos h]; omega
    by_cases k1 : b < 2
    · skip
      have H2 : Hid (isW c b = false) := (isW_no _ _).2 (by have := hv.out; omega)
      have H1 : Hid (worthF c b = 0) := by show _ = _; unfold worthF; rw [H2.out]; rfl
      go_enter Try.func28, Try.ntmps28
      go_wp2
      go_ret2
      exact ⟨ret_ib H1.out.symm H2.out.symm, rfl⟩
    · have k1' : decide (b < 2) = false := by simp; omega
      by_cases k2 : 36 < b
      · skip
        have H2 : Hid (isW c b = false) := (isW_no _ _).2 (by have := hv.out; omega)
        have H1 : Hid (worthF c b = 0) := by show _ = _; unfold worthF; rw [H2.out]; rfl
        clear k1
        go_enter Try.func28, Try.ntmps28
        go_wp2
        go_ret2
        exact ⟨ret_ib H1.out.symm H2.out.symm, rfl⟩
      · have k2' : decide (36 < b) = false := by simp; omega
        by_cases k3 : b ≤ (c : Int) - 48
        · skip
          have H2 : Hid (isW c b = false) := (isW_no _ _).2 (by have := hv.out; omega)
          have H1 : Hid (worthF c b = 0) := by show _ = _; unfold worthF; rw [H2.out]; rfl
          clear k1 k2
          go_enter Try.func28, Try.ntmps28
          go_wp2
          go_ret2
          exact ⟨ret_ib H1.out.symm H2.out.symm, rfl⟩
        · have k3' : decide (b ≤ (c : Int) - 48) = false := by simp; omega
          have H2 : Hid (isW c b = true) := (isW_iff _ _).2 (by have := hv.out; omega)
          have H1 : Hid (worthF c b = (c : Int) - 48) := by show _ = _; unfold worthF; rw [H2.out]; exact hv.out
          clear k1 k2 k3
          go_enter Try.func28, Try.ntmps28
          go_wp2
          go_ret2
          exact ⟨ret_ib H1.out.symm H2.out.symm, rfl⟩
  · skip
    have g48 : (48 : Int) ≤ (c : Int) := by omega
    have m57 : decide ((c : Int) ≤ 57) = false := by simp; omega
    have n65 : decide ((65 : Int) ≤ (c : Int)) = false := by simp; omega
    have n97 : decide ((97 : Int) ≤ (c : Int)) = false := by simp; omega
    have hv : Hid (((wN c : Nat) : Int) = 99) := by show _ = _; unfold wN; rw [if_neg (by omega), if_neg (by omega), if_neg (by omega)]; omega
    by_cases k1 : b < 2
    · skip
      have H2 : Hid (isW c b = false) := (isW_no _ _).2 (by have := hv.out; omega)
      have H1 : Hid (worthF c b = 0) := by show _ = _; unfold worthF; rw [H2.out]; rfl
      go_enter Try.func28, Try.ntmps28
      go_wp2
      go_ret2
      exact ⟨ret_ib H1.out.symm H2.out.symm, rfl⟩
    · have k1' : decide (b < 2) = false := by simp; omega
      by_cases k2 : 36 < b
      · skip
        have H2 : Hid (isW c b = false) := (isW_no _ _).2 (by have := hv.out; omega)
        have H1 : Hid (worthF c b = 0) := by show _ = _; unfold worthF; rw [H2.out]; rfl
        clear k1
        go_enter Try.func28, Try.ntmps28
        go_wp2
        go_ret2
        exact ⟨ret_ib H1.out.symm H2.out.symm, rfl⟩
      · have k2' : decide (36 < b) = false := by simp; omega
        by_cases k3 : b ≤ 99
        · skip
          have H2 : Hid (isW c b = false) := (isW_no _ _).2 (by have := hv.out; omega)
          have H1 : Hid (worthF c b = 0) := by show _ = _; unfold worthF; rw [H2.out]; rfl
          clear k1 k2
          go_enter Try.func28, Try.ntmps28
          go_wp2
          go_ret2
          exact ⟨ret_ib H1.out.symm H2.out.symm, rfl⟩
        · have k3' : decide (b ≤ 99) = false := by simp; omega
          have H2 : Hid (isW c b = true) := (isW_iff _ _).2 (by have := hv.out; omega)
          have H1 : Hid (worthF c b = 99) := by show _ = _; unfold worthF; rw [H2.out]; exact hv.out
          clear k1 k2 k3
          go_enter Try.func28, Try.ntmps28
          go_wp2
          go_ret2
          exact ⟨ret_ib H1.out.symm H2.out.symm, rfl⟩
  · skip
    have g48 : (48 : Int) ≤ (c : Int) := by omega
    have m57 : decide ((c : Int) ≤ 57) = false := by simp; omega
    have g65 : (65 : Int) ≤ (c : Int) := by omega
    have l90 : (c : Int) ≤ 90 := by omega
    have n97 : decide ((97 : Int) ≤ (c : Int)) = false := by simp; omega
    have hv : Hid (((wN c : Nat) : Int) = (c : Int) - 55) := by show _ = _; unfold wN; rw [if_neg (by omega), if_pos h]; omega
    by_cases k1 : b < 2
    · skip
      have H2 : Hid (isW c b = false) := (isW_no _ _).2 (by have := hv.out; omega)
      have H1 : Hid (worthF c b = 0) := by show _ = _; unfold worthF; rw [H2.out]; rfl
      go_enter Try.func28, Try.ntmps28
      go_wp2
      go_ret2
      exact ⟨ret_ib H1.out.symm H2.out.symm, rfl⟩
    · have k1' : decide (b < 2) = false := by simp; omega
      by_cases k2 : 36 < b
      · skip
        have H2 : Hid (isW c b = false) := (isW_no _ _).2 (by have := hv.out; omega)
        have H1 : Hid (worthF c b = 0) := by show _ = _; unfold worthF; rw [H2.out]; rfl
        clear k1
        go_enter Try.func28, Try.ntmps28
        go_wp2
        go_ret2
        exact ⟨ret_ib H1.out.symm H2.out.symm, rfl⟩
      · have k2' : decide (36 < b) = false := by simp; omega
        by_cases k3 : b ≤ (c : Int) - 55
        · skip
          have H2 : Hid (isW c b = false) := (isW_no _ _).2 (by have := hv.out; omega)
          have H1 : Hid (worthF c b = 0) := by show _ = _; unfold worthF; rw [H2.out]; rfl
          clear k1 k2
          go_enter Try.func28, Try.ntmps28
          go_wp2
          go_ret2
          exact ⟨ret_ib H1.out.symm H2.out.symm, rfl⟩
        · have k3' : decide (b ≤ (c : Int) - 55) = false := by simp; omega
          have H2 : Hid (isW c b = true) := (isW_iff _ _).2 (by have := hv.out; omega)
          have H1 : Hid (worthF c b = (c : Int) - 55) := by show _ = _; unfold worthF; rw [H2.out]; exact hv.out
          clear k1 k2 k3
          go_enter Try.func28, Try.ntmps28
          go_wp2
          go_ret2
          exact ⟨ret_ib H1.out.symm H2.out.symm, rfl⟩
  · skip
    have g48 : (48 : Int) ≤ (c : Int) := by omega
    have m57 : decide ((c : Int) ≤ 57) = false := by simp; omega
    have g65 : (65 : Int) ≤ (c : Int) := by omega
    have m90 : decide ((c : Int) ≤ 90) = false := by simp; omega
    have n97 : decide ((97 : Int) ≤ (c : Int)) = false := by simp; omega
    have hv : Hid (((wN c : Nat) : Int) = 99) := by show _ = _; unfold wN; rw [if_neg (by omega), if_neg (by omega), if_neg (by omega)]; omega
    by_cases k1 : b < 2
    · skip
      have H2 : Hid (isW c b = false) := (isW_no _ _).2 (by have := hv.out; omega)
      have H1 : Hid (worthF c b = 0) := by show _ = _; unfold worthF; rw [H2.out]; rfl
      go_enter Try.func28, Try.ntmps28
      go_wp2
      go_ret2
      exact ⟨ret_ib H1.out.symm H2.out.symm, rfl⟩
    · have k1' : decide (b < 2) = false := by simp; omega
      by_cases k2 : 36 < b
      · skip
        have H2 : Hid (isW c b = false) := (isW_no _ _).2 (by have := hv.out; omega)
        have H1 : Hid (worthF c b = 0) := by show _ = _; unfold worthF; rw [H2.out]; rfl
        clear k1
        go_enter Try.func28, Try.ntmps28
        go_wp2
        go_ret2
        exact ⟨ret_ib H1.out.symm H2.out.symm, rfl⟩
      · have k2' : decide (36 < b) = false := by simp; omega
        by_cases k3 : b ≤ 99
        · skip
          have H2 : Hid (isW c b = false) := (isW_no _ _).2 (by have := hv.out; omega)
          have H1 : Hid (worthF c b = 0) := by show _ = _; unfold worthF; rw [H2.out]; rfl
          clear k1 k2
          go_enter Try.func28, Try.ntmps28
          go_wp2
          go_ret2
          exact ⟨ret_ib H1.out.symm H2.out.symm, rfl⟩
        · have k3' : decide (b ≤ 99) = false := by simp; omega
          have H2 : Hid (isW c b = true) := (isW_iff _ _).2 (by have := hv.out; omega)
          have H1 : Hid (worthF c b = 99) := by show _ = _; unfold worthF; rw [H2.out]; exact hv.out
          clear k1 k2 k3
          go_enter Try.func28, Try.ntmps28
          go_wp2
          go_ret2
          exact ⟨ret_ib H1.out.symm H2.out.symm, rfl⟩
  · skip
    have g48 : (48 : Int) ≤ (c : Int) := by omega
    have m57 : decide ((c : Int) ≤ 57) = false := by simp; omega
    have g65 : (65 : Int) ≤ (c : Int) := by omega
    have m90 : decide ((c : Int) ≤ 90) = false := by simp; omega
    have g97 : (97 : Int) ≤ (c : Int) := by omega
    have l122 : (c : Int) ≤ 122 := by omega
    have hv : Hid (((wN c : Nat) : Int) = (c : Int) - 87) := by show _ = _; unfold wN; rw [if_neg (by omega), if_neg (by omega), if_pos h]; omega
    by_cases k1 : b < 2
    · skip
      have H2 : Hid (isW c b = false) := (isW_no _ _).2 (by have := hv.out; omega)
      have H1 : Hid (worthF c b = 0) := by show _ = _; unfold worthF; rw [H2.out]; rfl
      go_enter Try.func28, Try.ntmps28
      go_wp2
      go_ret2
      exact ⟨ret_ib H1.out.symm H2.out.symm, rfl⟩
    · have k1' : decide (b < 2) = false := by simp; omega
      by_cases k2 : 36 < b
      · skip
        have H2 : Hid (isW c b = false) := (isW_no _ _).2 (by have := hv.out; omega)
        have H1 : Hid (worthF c b = 0) := by show _ = _; unfold worthF; rw [H2.out]; rfl
        clear k1
        go_enter Try.func28, Try.ntmps28
        go_wp2
        go_ret2
        exact ⟨ret_ib H1.out.symm H2.out.symm, rfl⟩
      · have k2' : decide (36 < b) = false := by simp; omega
        by_cases k3 : b ≤ (c : Int) - 87
        · skip
          have H2 : Hid (isW c b = false) := (isW_no _ _).2 (by have := hv.out; omega)
          have H1 : Hid (worthF c b = 0) := by show _ = _; unfold worthF; rw [H2.out]; rfl
          clear k1 k2
          go_enter Try.func28, Try.ntmps28
          go_wp2
          go_ret2
          exact ⟨ret_ib H1.out.symm H2.out.symm, rfl⟩
        · have k3' : decide (b ≤ (c : Int) - 87) = false := by simp; omega
          have H2 : Hid (isW c b = true) := (isW_iff _ _).2 (by have := hv.out; omega)
          have H1 : Hid (worthF c b = (c : Int) - 87) := by show _ = _; unfold worthF; rw [H2.out]; exact hv.out
          clear k1 k2 k3
          go_enter Try.func28, Try.ntmps28
          go_wp2
          go_ret2
          exact ⟨ret_ib H1.out.symm H2.out.symm, rfl⟩
  · skip
    have g48 : (48 : Int) ≤ (c : Int) := by omega
    have m57 : decide ((c : Int) ≤ 57) = false := by simp; omega
    have g65 : (65 : Int) ≤ (c : Int) := by omega
    have m90 : decide ((c : Int) ≤ 90) = false := by simp; omega
    have g97 : (97 : Int) ≤ (c : Int) := by omega
    have m122 : decide ((c : Int) ≤ 122) = false := by simp; omega
    have hv : Hid (((wN c : Nat) : Int) = 99) := by show _ = _; unfold wN; rw [if_neg (by omega), if_neg (by omega), if_neg (by omega)]; omega
    by_cases k1 : b < 2
    · skip
      have H2 : Hid (isW c b = false) := (isW_no _ _).2 (by have := hv.out; omega)
      have H1 : Hid (worthF c b = 0) := by show _ = _; unfold worthF; rw [H2.out]; rfl
      go_enter Try.func28, Try.ntmps28
      go_wp2
      go_ret2
      exact ⟨ret_ib H1.out.symm H2.out.symm, rfl⟩
    · have k1' : decide (b < 2) = false := by simp; omega
      by_cases k2 : 36 < b
      · skip
        have H2 : Hid (isW c b = false) := (isW_no _ _).2 (by have := hv.out; omega)
        have H1 : Hid (worthF c b = 0) := by show _ = _; unfold worthF; rw [H2.out]; rfl
        clear k1
        go_enter Try.func28, Try.ntmps28
        go_wp2
        go_ret2
        exact ⟨ret_ib H1.out.symm H2.out.symm, rfl⟩
      · have k2' : decide (36 < b) = false := by simp; omega
        by_cases k3 : b ≤ 99
        · skip
          have H2 : Hid (isW c b = false) := (isW_no _ _).2 (by have := hv.out; omega)
          have H1 : Hid (worthF c b = 0) := by show _ = _; unfold worthF; rw [H2.out]; rfl
          clear k1 k2
          go_enter Try.func28, Try.ntmps28
          go_wp2
          go_ret2
          exact ⟨ret_ib H1.out.symm H2.out.symm, rfl⟩
        · have k3' : decide (b ≤ 99) = false := by simp; omega
          have H2 : Hid (isW c b = true) := (isW_iff _ _).2 (by have := hv.out; omega)
          have H1 : Hid (worthF c b = 99) := by show _ = _; unfold worthF; rw [H2.out]; exact hv.out
          clear k1 k2 k3
          go_enter Try.func28, Try.ntmps28
          go_wp2
          go_ret2
          exact ⟨ret_ib H1.out.symm H2.out.symm, rfl⟩
end Go.Proofs.Ytphbeghflbkpgaa

/- Contracts of the document's UShow and Show. -/
namespace Go.Proofs.Ytphbeghflbkpgaa
open Go.RowKit
set_option linter.unusedVariables false
set_option linter.unusedSimpArgs false

theorem dig_u8 (n : Nat) : digF (n : Int) = ((UInt8.ofNat (digN n)).toNat : Int) := by
  unfold digF
  rw [if_pos (by omega), digN_u8, Int.toNat_natCast]
/-- What is there yet of a number's text, and what comes ahead of it. -/
def Rest (b u0 u : Nat) (l : List UInt8) : Prop := (b ≤ u → usF b u0 = usF b (u / b) ++ l) ∧ (u < b → usF b u0 = l)
theorem rest_zero {b : Nat} (h2 : 2 ≤ b) (u : Nat) : Rest b u u [UInt8.ofNat (digN (u % b))] :=
  ⟨fun h => usF_big h2 h, fun h => by rw [usF_low h, Nat.mod_eq_of_lt h]⟩
theorem Rest.step {b u0 u : Nat} {l : List UInt8} (h2 : 2 ≤ b) (h : Rest b u0 u l) (hu : b ≤ u) : Rest b u0 (u / b) (UInt8.ofNat (digN (u / b % b)) :: l) := by
  have e := h.1 hu
  refine ⟨fun h => ?_, fun h => ?_⟩
  · rw [e, usF_big h2 h, List.append_assoc]
    rfl
  · rw [e, usF_low h, Nat.mod_eq_of_lt h]
    rfl
theorem us_le {b : Nat} (h2 : 2 ≤ b) : ∀ j u, u < 2 ^ (j + 1) → (usF b u).length ≤ j + 1 := by
  intro j
  induction j with
  | zero =>
    intro u hu
    rw [usF_low (by omega)]
    simp
  | succ j ih =>
    intro u hu
    by_cases h : b ≤ u
    · rw [usF_big h2 h, List.length_append]
      have hd : u / b < 2 ^ (j + 1) := by
        rw [Nat.div_lt_iff_lt_mul (by omega)]
        have e : 2 ^ (j + 1 + 1) = 2 ^ (j + 1) * 2 := Nat.pow_succ _ _
        have : 2 ^ (j + 1) * 2 ≤ 2 ^ (j + 1) * b := Nat.mul_le_mul_left _ h2
        omega
      have := ih _ hd
      simp
      omega
    · rw [usF_low (by omega)]
      simp
theorem Rest.len {b u0 u : Nat} {l : List UInt8} (h2 : 2 ≤ b) (h : Rest b u0 u l) (h0 : u0 < 18446744073709551616) : l.length ≤ 64 := by
  have hl := us_le h2 63 u0 (by omega)
  by_cases hu : b ≤ u
  · rw [h.1 hu, List.length_append] at hl
    omega
  · rw [h.2 (by omega)] at hl
    exact hl
theorem cat_ok {a b : List UInt8} (h : a.length + b.length ≤ 9223372036854775807) : ¬ (9223372036854775807 < (strB a).size + (strB b).size) := by
  rw [strB_size, strB_size]
  omega
theorem ushow_len (n b : Int) : (ushowF n b).length ≤ 64 := by
  unfold ushowF
  split
  · rename_i h
    have := (baseB_iff b).1 h
    exact us_le (by omega) 63 _ (by have := un_lt n; omega)
  · simp
theorem alloc_then {w w1 : World} {o : Obj} (b : Below w.heap.size w w1) : Below w.heap.size w (w1.alloc o) := b.alloc b.size o

set_option maxRecDepth 100000 in
set_option maxHeartbeats 4000000 in
theorem rushow_any (n b : Int) (w : World) :
    Calls Try.prog 26 #[.int .i64 n, .int .i64 b] w fun e w' => e = .returned (.tuple #[.string (strB (ushowF n b)), .int .i64 (showC b)]) ∧ Below w.heap.size w w' := by
  cases hb : baseB b with
  | false =>
    have H1 : Hid (strB (ushowF n b) = ⟨#[]⟩) := by show _ = _; unfold ushowF; rw [if_neg (by simp [hb])]; rfl
    have H2 : Hid (showC b = -24) := by show _ = _; unfold showC; rw [if_neg (by simp [hb])]
    have hno := (baseB_no b).1 hb
    rw [H1.out, H2.out]
    by_cases k1 : b < 2
    · go_enter Try.func26, Try.ntmps26
      go_wp2
      go_ret2
      exact ⟨rfl, Below.refl _ _⟩
    · have k1' : decide (b < 2) = false := by simp; omega
      have k2 : 36 < b := by omega
      clear k1 hno
      go_enter Try.func26, Try.ntmps26
      go_wp2
      go_ret2
      exact ⟨rfl, Below.refl _ _⟩
  | true =>
    obtain ⟨b2, b36⟩ := (baseB_iff b).1 hb
    obtain ⟨k, rfl⟩ := Int.eq_ofNat_of_zero_le (by omega : 0 ≤ b)
    have H1 : Hid (ushowF n (k : Int) = usF k (un n)) := by show _ = _; unfold ushowF; rw [if_pos hb, Int.toNat_natCast]
    have H2 : Hid (showC (k : Int) = 0) := by show _ = _; unfold showC; rw [if_pos hb]
    rw [H1.out, H2.out]
    have hu := un_cast n
    have hul := un_lt n
    obtain ⟨u0, hu0⟩ : ∃ u0, un n = u0 := ⟨_, rfl⟩
    rw [hu0] at hu hul ⊢
    have k1' : decide ((k : Int) < 2) = false := by simp; omega
    have k2' : decide (36 < (k : Int)) = false := by simp; omega
    have k64 : IntKind.u64.wrap (k : Int) = (k : Int) := un_nat k (by omega)
    have hk0 : ((k : Int) == 0) = false := by simp; omega
    have hk2 : 2 ≤ k := by omega
    have hk36 : k ≤ 36 := by omega
    have R0 : Hid (Rest k u0 u0 [UInt8.ofNat (digN (u0 % k))]) := rest_zero hk2 u0
    have hm : u0 % k < k := Nat.mod_lt _ (by omega)
    obtain ⟨r0, hr0⟩ : ∃ r, u0 % k = r := ⟨_, rfl⟩
    have q0 : (u0 : Int) % (k : Int) = (r0 : Int) := by rw [← hr0]; simp
    rw [hr0] at R0 hm
    obtain ⟨x0, hx0⟩ : ∃ x, UInt8.ofNat (digN r0) = x := ⟨_, rfl⟩
    have HX : Hid (digF (r0 : Int) = (x0.toNat : Int)) := by rw [← hx0]; exact dig_u8 r0
    rw [hx0] at R0
    have cv := conv_one x0 w
    clear hb hu0 H1 H2 hr0 hx0 b2 b36
    go_enter Try.func26, Try.ntmps26
    go_wp2_with fail
    refine (rdigit_any _ _).mono ?_
    rw [HX.out]
    rintro e w1 ⟨rfl, rfl⟩
    go_wp2_with fail
    clear cv q0 hm
    go_loopw [6, 8] (fun u6 s8 wr => ∃ (u : Nat) (l : List UInt8), u6 = .int .u64 (u : Int) ∧ s8 = .string (strB l) ∧ u < 18446744073709551616 ∧ Hid (Rest k u0 u l) ∧ Below w.heap.size w wr) (fun u6 _ _ => (intOf u6).toNat)
    case atStart => exact ⟨u0, [x0], rfl, rfl, hul, R0.out, alloc_then (Below.refl _ _)⟩
    case round =>
      obtain ⟨u, l, rfl, rfl, hul2, R, hbel⟩ := hrel
      by_cases hku : k ≤ u
      · have hku' : (k : Int) ≤ (u : Int) := by omega
        have RS := Lib.hid (R.out.step hk2 hku)
        have hlt : u / k < u := Nat.div_lt_self (by omega) (by omega)
        obtain ⟨v, hv⟩ : ∃ v, u / k = v := ⟨_, rfl⟩
        have qv : (u : Int) / (k : Int) = (v : Int) := by rw [← hv]; simp
        rw [hv] at RS hlt
        have hm : v % k < k := Nat.mod_lt _ (by omega)
        obtain ⟨r, hr⟩ : ∃ r, v % k = r := ⟨_, rfl⟩
        have qr : (v : Int) % (k : Int) = (r : Int) := by rw [← hr]; simp
        rw [hr] at RS hm
        obtain ⟨x, hx⟩ : ∃ x, UInt8.ofNat (digN r) = x := ⟨_, rfl⟩
        have HX2 : Hid (digF (r : Int) = (x.toNat : Int)) := by rw [← hx]; exact dig_u8 r
        rw [hx] at RS
        have cv := conv_one x wr
        have hap : strB [x] ++ strB l = strB (x :: l) := strB_app [x] l
        have hll := R.out.len hk2 hul
        have hcat := cat_ok (a := [x]) (b := l) (by simp; omega)
        clear hv hr hx R hku
        go_wp2_with fail
        refine (rdigit_any _ _).mono ?_
        rw [HX2.out]
        rintro e w2 ⟨rfl, rfl⟩
        go_wp2_with fail
        go_roundw
        case rel => exact ⟨v, x :: l, rfl, rfl, by omega, RS.out, alloc_then hbel⟩
        case measure => simp [intOf]; omega
      · have hku' : decide (k ≤ u) = false := by simp; omega
        have he : Hid (usF k u0 = l) := R.out.2 (by omega)
        clear hku R
        go_wp2
        go_ret2
        refine ⟨?_, hbel⟩
        rw [he.out]
        rfl

set_option maxRecDepth 100000 in
set_option maxHeartbeats 4000000 in
theorem rshow_any (n b : Int) (w : World) (h0 : -9223372036854775808 ≤ n) (h1 : n ≤ 9223372036854775807) :
    Calls Try.prog 27 #[.int .i64 n, .int .i64 b] w fun e w' => e = .returned (.tuple #[.string (strB (showF n b)), .int .i64 (showC b)]) ∧ Below w.heap.size w w' := by
  by_cases hn : 0 ≤ n
  · have H : Hid (ushowF n b = showF n b) := by
      show _ = _
      unfold ushowF showF
      have e : un n = n.toNat := by have := un_mod n; omega
      rw [if_pos hn, e]
    go_enter Try.func27, Try.ntmps27
    go_wp2_with fail
    refine (rushow_any n b _).mono ?_
    rw [H.out]
    rintro e w1 ⟨rfl, hb⟩
    go_wp2
    go_ret2
    exact ⟨rfl, hb⟩
  · have hn' : decide (0 ≤ n) = false := by simp; omega
    cases hb : baseB b with
    | false =>
      have H : Hid (ushowF (wrap64 (-n)) b = [] ∧ showF n b = []) := by
        constructor
        · unfold ushowF; rw [if_neg (by simp [hb])]
        · unfold showF; rw [if_neg (by simp [hb])]
      have HC : Hid (showC b = -24) := by show _ = _; unfold showC; rw [if_neg (by simp [hb])]
      have HE : Hid (strB [] = ⟨#[]⟩) := rfl
      rw [H.out.2, HC.out, HE.out]
      clear hn hb
      go_enter Try.func27, Try.ntmps27
      go_wp2_with fail
      refine (rushow_any _ b _).mono ?_
      rw [HC.out]
      rintro e w1 ⟨rfl, hb⟩
      go_wp2
      go_ret2
      exact ⟨rfl, hb⟩
    | true =>
      have H : Hid (showF n b = 45 :: ushowF (wrap64 (-n)) b) := by
        show _ = _
        unfold ushowF showF
        have e : un (wrap64 (-n)) = (-n).toNat := by have := un_mod (wrap64 (-n)); unfold wrap64 at this ⊢; omega
        rw [if_pos hb, if_pos hb, if_neg hn, e]
      have HC : Hid (showC b = 0) := by show _ = _; unfold showC; rw [if_pos hb]
      obtain ⟨l, hl⟩ : ∃ l, ushowF (wrap64 (-n)) b = l := ⟨_, rfl⟩
      rw [hl] at H
      have HL := Lib.hid hl
      have hap : (⟨#[45]⟩ : ByteArray) ++ strB l = strB (45 :: l) := strB_app [45] l
      have hll : l.length ≤ 64 := by rw [← hl]; exact ushow_len _ _
      have hsz : (strB l).size ≤ 64 := hll
      have hcat : ¬ (9223372036854775807 < 1 + (strB l).size) := by omega
      rw [H.out, HC.out]
      clear hn hb hl H
      go_enter Try.func27, Try.ntmps27
      go_wp2_with fail
      refine (rushow_any _ b _).mono ?_
      rw [HC.out, HL.out]
      rintro e w1 ⟨rfl, hb⟩
      go_wp2
      go_ret2
      exact ⟨rfl, hb⟩
end Go.Proofs.Ytphbeghflbkpgaa

/- A contract of the document's Parse. -/
namespace Go.Proofs.Ytphbeghflbkpgaa
open Go.RowKit
set_option linter.unusedVariables false
set_option linter.unusedSimpArgs false

theorem ix_at (l : List UInt8) (i : Nat) (c : UInt8) (h : l[i]? = some c) : ∀ w, (Instr.index 9 (.string (strB l)) (.int .i64 (i : Int))).run Try.prog w = .ok (.int .u8 (c.toNat : Int)) w := by
  intro w
  have hi := (List.getElem?_eq_some_iff.1 h).1
  have := run_ix l i hi w
  rw [(List.getElem?_eq_some_iff.1 h).2] at this
  exact this
theorem ix_0 {l : List UInt8} {c : UInt8} (h : l[0]? = some c) : ∀ w, (Instr.index 9 (.string (strB l)) (.int .i64 0)).run Try.prog w = .ok (.int .u8 (c.toNat : Int)) w := ix_at l 0 c h
end Go.Proofs.Ytphbeghflbkpgaa

/- Contracts of num's isBase, worth, Worth and Digit. -/
namespace Go.Proofs.Ytphbeghflbkpgaa
open Go.RowKit
set_option linter.unusedVariables false
set_option linter.unusedSimpArgs false

set_option maxRecDepth 100000 in
set_option maxHeartbeats 4000000 in
theorem isbase_any (b : Int) (w : World) : Calls Try.prog 45 #[.int .i64 b] w fun e w' => e = .returned (.bool (baseB b)) ∧ w = w' := by
  by_cases k1 : 2 ≤ b
  · by_cases k2 : b ≤ 36
    · have H : Hid (baseB b = true) := (baseB_iff b).2 ⟨k1, k2⟩
      go_enter Try.func45, Try.ntmps45
      go_wp2
      go_ret
      exact ⟨ret_bool H.out.symm, rfl⟩
    · have k2' : decide (b ≤ 36) = false := by simp; omega
      have H : Hid (baseB b = false) := (baseB_no b).2 (by omega)
      clear k2
      go_enter Try.func45, Try.ntmps45
      go_wp2
      go_ret
      exact ⟨ret_bool H.out.symm, rfl⟩
  · have k1' : decide (2 ≤ b) = false := by simp; omega
    have H : Hid (baseB b = false) := (baseB_no b).2 (by omega)
    clear k1
    go_enter Try.func45, Try.ntmps45
    go_wp2
    go_ret
    exact ⟨ret_bool H.out.symm, rfl⟩

set_option maxRecDepth 100000 in
set_option maxHeartbeats 4000000 in
theorem nworth_any (c : Nat) (b : Int) (w : World) (hc : c ≤ 2147483647) :
    Calls Try.prog 43 #[.int .i32 (c : Int), .int .i64 b] w fun e w' => e = .returned (.tuple #[.int .i64 (worthF c b), .bool (isW c b)]) ∧ w = w' := by
  have hc' : (c : Int) ≤ 2147483647 := by omega
  rcases (by omega : c < 48 ∨ (48 ≤ c ∧ c ≤ 57) ∨ (57 < c ∧ c < 65) ∨ (65 ≤ c ∧ c ≤ 90) ∨ (90 < c ∧ c < 97) ∨ (97 ≤ c ∧ c ≤ 122) ∨ 122 < c) with h | h | h | h | h | h | h
  · skip
    have n48 : decide ((48 : Int) ≤ (c : Int)) = false := by simp; omega
    have n65 : decide ((65 : Int) ≤ (c : Int)) = false := by simp; omega
    have n97 : decide ((97 : Int) ≤ (c : Int)) = false := by simp; omega
    have hv : Hid (((wN c : Nat) : Int) = 99) := by show _ = _; unfold wN; rw [if_neg (by omega), if_neg (by omega), if_neg (by omega)]; omega
    cases hb : baseB b with
    | false =>
      have hno := (baseB_no b).1 hb
      have H2 : Hid (isW c b = false) := (isW_no _ _).2 (by have := hv.out; omega)
      have H1 : Hid (worthF c b = 0) := by show _ = _; unfold worthF; rw [H2.out]; rfl
      clear hno
      go_enter Try.func43, Try.ntmps43
      go_wp2_with fail
      refine (isbase_any b _).mono ?_
      rw [hb]
      rintro e w1 ⟨rfl, rfl⟩
      go_wp2
      go_ret2
      exact ⟨ret_ib H1.out.symm H2.out.symm, rfl⟩
    | true =>
      have hyes := (baseB_iff b).1 hb
      by_cases k3 : b ≤ 36
      · skip
        have H2 : Hid (isW c b = false) := (isW_no _ _).2 (by have := hv.out; omega)
        have H1 : Hid (worthF c b = 0) := by show _ = _; unfold worthF; rw [H2.out]; rfl
        clear hyes
        go_enter Try.func43, Try.ntmps43
        go_wp2_with fail
        refine (isbase_any b _).mono ?_
        rw [hb]
        rintro e w1 ⟨rfl, rfl⟩
        go_wp2
        go_ret2
        exact ⟨ret_ib H1.out.symm H2.out.symm, rfl⟩
      · exact absurd hyes.2 (by omega)
  · skip
    have g48 : (48 : Int) ≤ (c : Int) := by omega
    have l57 : (c : Int) ≤ 57 := by omega
    have n65 : decide ((65 : Int) ≤ (c : Int)) = false := by simp; omega
    have n97 : decide ((97 : Int) ≤ (c : Int)) = false := by simp; omega
    have hv : Hid (((wN c : Nat) : Int) = (c : Int) - 48) := by show _ = _; unfold wN; rw [if_pos h]; omega
    cases hb : baseB b with
    | false =>
      have hno := (baseB_no b).1 hb
      have H2 : Hid (isW c b = false) := (isW_no _ _).2 (by have := hv.out; omega)
      have H1 : Hid (worthF c b = 0) := by show _ = _; unfold worthF; rw [H2.out]; rfl
      clear hno
      go_enter Try.func43, Try.ntmps43
      go_wp2_with fail
      refine (isbase_any b _).mono ?_
      rw [hb]
      rintro e w1 ⟨rfl, rfl⟩
      go_wp2
      go_ret2
      exact ⟨ret_ib H1.out.symm H2.out.symm, rfl⟩
    | true =>
      have hyes := (baseB_iff b).1 hb
      by_cases k3 : b ≤ (c : Int) - 48
      · skip
        have H2 : Hid (isW c b = false) := (isW_no _ _).2 (by have := hv.out; omega)
        have H1 : Hid (worthF c b = 0) := by show _ = _; unfold worthF; rw [H2.out]; rfl
        clear hyes
        go_enter Try.func43, Try.ntmps43
        go_wp2_with fail
        refine (isbase_any b _).mono ?_
        rw [hb]
        rintro e w1 ⟨rfl, rfl⟩
        go_wp2
        go_ret2
        exact ⟨ret_ib H1.out.symm H2.out.symm, rfl⟩
      · have k3' : decide (b ≤ (c : Int) - 48) = false := by simp; omega
        have H2 : Hid (isW c b = true) := (isW_iff _ _).2 (by have := hv.out; omega)
        have H1 : Hid (worthF c b = (c : Int) - 48) := by show _ = _; unfold worthF; rw [H2.out]; exact hv.out
        clear hyes k3
        go_enter Try.func43, Try.ntmps43
        go_wp2_with fail
        refine (isbase_any b _).mono ?_
        rw [hb]
        rintro e w1 ⟨rfl, rfl⟩
        go_wp2
        go_ret2
        exact ⟨ret_ib H1.out.symm H2.out.symm, rfl⟩
  · skip
    have g48 : (48 : Int) ≤ (c : Int) := by omega
    have m57 : decide ((c : Int) ≤ 57) = false := by simp; omega
    have n65 : decide ((65 : Int) ≤ (c : Int)) = false := by simp; omega
    have n97 : decide ((97 : Int) ≤ (c : Int)) = false := by simp; omega
    have hv : Hid (((wN c : Nat) : Int) = 99) := by show _ = _; unfold wN; rw [if_neg (by omega), if_neg (by omega), if_neg (by omega)]; omega
    cases hb : baseB b with
    | false =>
      have hno := (baseB_no b).1 hb
      have H2 : Hid (isW c b = false) := (isW_no _ _).2 (by have := hv.out; omega)
      have H1 : Hid (worthF c b = 0) := by show _ = _; unfold worthF; rw [H2.out]; rfl
      clear hno
      go_enter Try.func43, Try.ntmps43
      go_wp2_with fail
      refine (isbase_any b _).mono ?_
      rw [hb]
      rintro e w1 ⟨rfl, rfl⟩
      go_wp2
      go_ret2
      exact ⟨ret_ib H1.out.symm H2.out.symm, rfl⟩
    | true =>
      have hyes := (baseB_iff b).1 hb
      by_cases k3 : b ≤ 36
      · skip
        have H2 : Hid (isW c b = false) := (isW_no _ _).2 (by have := hv.out; omega)
        have H1 : Hid (worthF c b = 0) := by show _ = _; unfold worthF; rw [H2.out]; rfl
        clear hyes
        go_enter Try.func43, Try.ntmps43
        go_wp2_with fail
        refine (isbase_any b _).mono ?_
        rw [hb]
        rintro e w1 ⟨rfl, rfl⟩
        go_wp2
        go_ret2
        exact ⟨ret_ib H1.out.symm H2.out.symm, rfl⟩
      · exact absurd hyes.2 (by omega)
  · skip
    have g48 : (48 : Int) ≤ (c : Int) := by omega
    have m57 : decide ((c : Int) ≤ 57) = false := by simp; omega
    have g65 : (65 : Int) ≤ (c : Int) := by omega
    have l90 : (c : Int) ≤ 90 := by omega
    have n97 : decide ((97 : Int) ≤ (c : Int)) = false := by simp; omega
    have hv : Hid (((wN c : Nat) : Int) = (c : Int) - 65 + 10) := by show _ = _; unfold wN; rw [if_neg (by omega), if_pos h]; omega
    cases hb : baseB b with
    | false =>
      have hno := (baseB_no b).1 hb
      have H2 : Hid (isW c b = false) := (isW_no _ _).2 (by have := hv.out; omega)
      have H1 : Hid (worthF c b = 0) := by show _ = _; unfold worthF; rw [H2.out]; rfl
      clear hno
      go_enter Try.func43, Try.ntmps43
      go_wp2_with fail
      refine (isbase_any b _).mono ?_
      rw [hb]
      rintro e w1 ⟨rfl, rfl⟩
      go_wp2
      go_ret2
      exact ⟨ret_ib H1.out.symm H2.out.symm, rfl⟩
    | true =>
      have hyes := (baseB_iff b).1 hb
      by_cases k3 : b ≤ (c : Int) - 65 + 10
      · skip
        have H2 : Hid (isW c b = false) := (isW_no _ _).2 (by have := hv.out; omega)
        have H1 : Hid (worthF c b = 0) := by show _ = _; unfold worthF; rw [H2.out]; rfl
        clear hyes
        go_enter Try.func43, Try.ntmps43
        go_wp2_with fail
        refine (isbase_any b _).mono ?_
        rw [hb]
        rintro e w1 ⟨rfl, rfl⟩
        go_wp2
        go_ret2
        exact ⟨ret_ib H1.out.symm H2.out.symm, rfl⟩
      · have k3' : decide (b ≤ (c : Int) - 65 + 10) = false := by simp; omega
        have H2 : Hid (isW c b = true) := (isW_iff _ _).2 (by have := hv.out; omega)
        have H1 : Hid (worthF c b = (c : Int) - 65 + 10) := by show _ = _; unfold worthF; rw [H2.out]; exact hv.out
        clear hyes k3
        go_enter Try.func43, Try.ntmps43
        go_wp2_with fail
        refine (isbase_any b _).mono ?_
        rw [hb]
        rintro e w1 ⟨rfl, rfl⟩
        go_wp2
        go_ret2
        exact ⟨ret_ib H1.out.symm H2.out.symm, rfl⟩
  · skip
    have g48 : (48 : Int) ≤ (c : Int) := by omega
    have m57 : decide ((c : Int) ≤ 57) = false := by simp; omega
    have g65 : (65 : Int) ≤ (c : Int) := by omega
    have m90 : decide ((c : Int) ≤ 90) = false := by simp; omega
    have n97 : decide ((97 : Int) ≤ (c : Int)) = false := by simp; omega
    have hv : Hid (((wN c : Nat) : Int) = 99) := by show _ = _; unfold wN; rw [if_neg (by omega), if_neg (by omega), if_neg (by omega)]; omega
    cases hb : baseB b with
    | false =>
      have hno := (baseB_no b).1 hb
      have H2 : Hid (isW c b = false) := (isW_no _ _).2 (by have := hv.out; omega)
      have H1 : Hid (worthF c b = 0) := by show _ = _; unfold worthF; rw [H2.out]; rfl
      clear hno
      go_enter Try.func43, Try.ntmps43
      go_wp2_with fail
      refine (isbase_any b _).mono ?_
      rw [hb]
      rintro e w1 ⟨rfl, rfl⟩
      go_wp2
      go_ret2
      exact ⟨ret_ib H1.out.symm H2.out.symm, rfl⟩
    | true =>
      have hyes := (baseB_iff b).1 hb
      by_cases k3 : b ≤ 36
      · skip
        have H2 : Hid (isW c b = false) := (isW_no _ _).2 (by have := hv.out; omega)
        have H1 : Hid (worthF c b = 0) := by show _ = _; unfold worthF; rw [H2.out]; rfl
        clear hyes
        go_enter Try.func43, Try.ntmps43
        go_wp2_with fail
        refine (isbase_any b _).mono ?_
        rw [hb]
        rintro e w1 ⟨rfl, rfl⟩
        go_wp2
        go_ret2
        exact ⟨ret_ib H1.out.symm H2.out.symm, rfl⟩
      · exact absurd hyes.2 (by omega)
  · skip
    have g48 : (48 : Int) ≤ (c : Int) := by omega
    have m57 : decide ((c : Int) ≤ 57) = false := by simp; omega
    have g65 : (65 : Int) ≤ (c : Int) := by omega
    have m90 : decide ((c : Int) ≤ 90) = false := by simp; omega
    have g97 : (97 : Int) ≤ (c : Int) := by omega
    have l122 : (c : Int) ≤ 122 := by omega
    have hv : Hid (((wN c : Nat) : Int) = (c : Int) - 97 + 10) := by show _ = _; unfold wN; rw [if_neg (by omega), if_neg (by omega), if_pos h]; omega
    cases hb : baseB b with
    | false =>
      have hno := (baseB_no b).1 hb
      have H2 : Hid (isW c b = false) := (isW_no _ _).2 (by have := hv.out; omega)
      have H1 : Hid (worthF c b = 0) := by show _ = _; unfold worthF; rw [H2.out]; rfl
      clear hno
      go_enter Try.func43, Try.ntmps43
      go_wp2_with fail
      refine (isbase_any b _).mono ?_
      rw [hb]
      rintro e w1 ⟨rfl, rfl⟩
      go_wp2
      go_ret2
      exact ⟨ret_ib H1.out.symm H2.out.symm, rfl⟩
    | true =>
      have hyes := (baseB_iff b).1 hb
      by_cases k3 : b ≤ (c : Int) - 97 + 10
      · skip
        have H2 : Hid (isW c b = false) := (isW_no _ _).2 (by have := hv.out; omega)
        have H1 : Hid (worthF c b = 0) := by show _ = _; unfold worthF; rw [H2.out]; rfl
        clear hyes
        go_enter Try.func43, Try.ntmps43
        go_wp2_with fail
        refine (isbase_any b _).mono ?_
        rw [hb]
        rintro e w1 ⟨rfl, rfl⟩
        go_wp2
        go_ret2
        exact ⟨ret_ib H1.out.symm H2.out.symm, rfl⟩
      · have k3' : decide (b ≤ (c : Int) - 97 + 10) = false := by simp; omega
        have H2 : Hid (isW c b = true) := (isW_iff _ _).2 (by have := hv.out; omega)
        have H1 : Hid (worthF c b = (c : Int) - 97 + 10) := by show _ = _; unfold worthF; rw [H2.out]; exact hv.out
        clear hyes k3
        go_enter Try.func43, Try.ntmps43
        go_wp2_with fail
        refine (isbase_any b _).mono ?_
        rw [hb]
        rintro e w1 ⟨rfl, rfl⟩
        go_wp2
        go_ret2
        exact ⟨ret_ib H1.out.symm H2.out.symm, rfl⟩
  · skip
    have g48 : (48 : Int) ≤ (c : Int) := by omega
    have m57 : decide ((c : Int) ≤ 57) = false := by simp; omega
    have g65 : (65 : Int) ≤ (c : Int) := by omega
    have m90 : decide ((c : Int) ≤ 90) = false := by simp; omega
    have g97 : (97 : Int) ≤ (c : Int) := by omega
    have m122 : decide ((c : Int) ≤ 122) = false := by simp; omega
    have hv : Hid (((wN c : Nat) : Int) = 99) := by show _ = _; unfold wN; rw [if_neg (by omega), if_neg (by omega), if_neg (by omega)]; omega
    cases hb : baseB b with
    | false =>
      have hno := (baseB_no b).1 hb
      have H2 : Hid (isW c b = false) := (isW_no _ _).2 (by have := hv.out; omega)
      have H1 : Hid (worthF c b = 0) := by show _ = _; unfold worthF; rw [H2.out]; rfl
      clear hno
      go_enter Try.func43, Try.ntmps43
      go_wp2_with fail
      refine (isbase_any b _).mono ?_
      rw [hb]
      rintro e w1 ⟨rfl, rfl⟩
      go_wp2
      go_ret2
      exact ⟨ret_ib H1.out.symm H2.out.symm, rfl⟩
    | true =>
      have hyes := (baseB_iff b).1 hb
      by_cases k3 : b ≤ 36
      · skip
        have H2 : Hid (isW c b = false) := (isW_no _ _).2 (by have := hv.out; omega)
        have H1 : Hid (worthF c b = 0) := by show _ = _; unfold worthF; rw [H2.out]; rfl
        clear hyes
        go_enter Try.func43, Try.ntmps43
        go_wp2_with fail
        refine (isbase_any b _).mono ?_
        rw [hb]
        rintro e w1 ⟨rfl, rfl⟩
        go_wp2
        go_ret2
        exact ⟨ret_ib H1.out.symm H2.out.symm, rfl⟩
      · exact absurd hyes.2 (by omega)

set_option maxRecDepth 100000 in
set_option maxHeartbeats 4000000 in
theorem worth_any (c : Nat) (b : Int) (w : World) (hc : c < 256) :
    Calls Try.prog 39 #[.int .u8 (c : Int), .int .i64 b] w fun e w' => e = .returned (.tuple #[.int .i64 (worthF c b), .bool (isW c b)]) ∧ Below w.heap.size w w' := by
  have hc' : (c : Int) < 256 := by omega
  have HC := Lib.hid hc
  clear hc
  go_enter Try.func39, Try.ntmps39
  go_wp2_with fail
  refine (nworth_any c b _ (by have := HC.out; omega)).mono ?_
  rintro e w1 ⟨rfl, rfl⟩
  go_wp2
  go_ret2
  exact ⟨rfl, Below.refl _ _⟩

set_option maxRecDepth 100000 in
set_option maxHeartbeats 4000000 in
theorem digit_any (n : Int) (w : World) :
    Calls Try.prog 35 #[.int .i64 n] w fun e w' => e = .returned (.int .u8 (digF n)) ∧ Below w.heap.size w w' := by
  by_cases h0 : 0 ≤ n
  · by_cases h9 : n < 10
    · have H : Hid (digF n = 48 + n) := by
        show _ = _
        unfold digF digN
        rw [if_pos h0, if_pos (by omega)]
        omega
      go_enter Try.func35, Try.ntmps35
      go_wp2
      go_ret
      exact ⟨ret_int H.out.symm, Below.refl _ _⟩
    · have h9' : decide (n < 10) = false := by simp; omega
      have h10 : 10 ≤ n := by omega
      by_cases h35 : n < 36
      · have H : Hid (digF n = 65 + n - 10) := by
          show _ = _
          unfold digF digN
          rw [if_pos h0, if_neg (by omega), if_pos (by omega)]
          omega
        clear h9
        go_enter Try.func35, Try.ntmps35
        go_wp2
        go_ret
        exact ⟨ret_int H.out.symm, Below.refl _ _⟩
      · have h35' : decide (n < 36) = false := by simp; omega
        have H : Hid (digF n = 63) := by
          show _ = _
          unfold digF digN
          rw [if_pos h0, if_neg (by omega), if_neg (by omega)]
          rfl
        clear h9 h35
        go_enter Try.func35, Try.ntmps35
        go_wp2
        go_ret
        exact ⟨ret_int H.out.symm, Below.refl _ _⟩
  · have h0' : decide (0 ≤ n) = false := by simp; omega
    have h10' : decide (10 ≤ n) = false := by simp; omega
    have H : Hid (digF n = 63) := by
      show _ = _
      unfold digF
      rw [if_neg h0]
    clear h0
    go_enter Try.func35, Try.ntmps35
    go_wp2
    go_ret
    exact ⟨ret_int H.out.symm, Below.refl _ _⟩
end Go.Proofs.Ytphbeghflbkpgaa

/- The document's own Same. -/
namespace Go.Proofs.Ytphbeghflbkpgaa
open Go.RowKit

theorem str_neq {a b : ByteArray} (h : a ≠ b) : (a.toList != b.toList) = true := by rw [bne, str_ne h]; rfl
theorem Byt.drewN {w : World} {v : Value} {l : List UInt8} (h : Byt w v l) (i : Nat) : Byt (w.drewN i) v l := h

end Go.Proofs.Ytphbeghflbkpgaa

/- The head of all statements of layer 3: the document's examples come out. -/
namespace Go.Proofs.Ytphbeghflbkpgaa
open Go.RowKit

def sm : PM := newF 16
def sx : PM := storeF sm 8 258
theorem s1 : newC 16 = 0 := by decide +kernel
theorem s2 : sm.1.length = 16 ∧ sm.2.length = 0 ∧ sx.1.length = 16 ∧ sx.2.length = 1 := by decide +kernel
theorem s4 : fetchF sx 8 = 258 := by decide +kernel
theorem s5 : backC sx 0 = 0 ∧ backF sx 0 = sm := by decide +kernel
theorem s7 : rightB sx = true ∧ rightB ([1], []) = false ∧ decide (sm = sm) = true ∧ decide (sx = sm) = false := by decide +kernel

theorem al_one (w : World) (o : Obj) : Below w.heap.size w (w.alloc o) := (Below.refl _ _).alloc (Nat.le_refl _) o
theorem al_then {w1 w2 : World} {o : Obj} (b : Below (w1.alloc o).heap.size (w1.alloc o) w2) : Below w1.heap.size w1 w2 := (al_one w1 o).trans (b.mono (by simp))

end Go.Proofs.Ytphbeghflbkpgaa
