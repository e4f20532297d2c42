/- What the laws of this stage lean on, part 4: LexMath, LexRefC, DictSpec, DictRefA, DictMath, DictRefB, DictRefC, DictRefD, PicSpec, WalksA, MathA, DivA, WalksC, NumCodeE, RefC, WalksD, MemIn, PicBase, PicRefA. -/
import Derived.Test.YtbighilgkmfemaaDoorSetC
import Derived.Laws.RangeAny
import Derived.Lib.OthersKept
import Derived.WalkSpells
import Derived.Test.YtbighilgkmfemaaDoorSetA
import Derived.Test.YtbighilgkmfemaaDoorRows
import Derived.WalkKit
import Derived.WalkLawsBesides
import Derived.Deep.QuietTactic
import Derived.BigQuiet
import Derived.Lib.Hide
import Derived.Shelf.Small.Bits
import Derived.Shelf.Strconv.Itoa0
import Derived.Shelf.Bits.Mul64
import Derived.Test.YtbighilgkmfemaaDoorProg
import Derived.Shelf.Spec.BitsCarry
import Derived.Lib.BitFns
import Derived.Shelf.SlicesE.Reverse
import Derived.Lib.Mul64
import Derived.ProofKit
import Derived.OpenShut
import Derived.ShutString
import Derived.ChangeOld
import Derived.Below
import Derived.Lib.SmallJoins
import Derived.Deep.Slices
import Derived.Deep.Fields

/- Plain facts on words. -/
namespace Go.Proofs.YtbighilgkmfemaaDoor
open Go.RowKit
set_option linter.unusedVariables false
set_option linter.unusedSimpArgs false

/-- What a word is made of under way: u was read, rest is to come. -/
def WInv (R u rest : List UInt8) : Prop := (u = [] → wordW R = wordW rest ∧ wordT R = wordT rest) ∧ (u ≠ [] → wordW R = u ++ rest.takeWhile solid ∧ wordT R = (rest.dropWhile solid).drop 1)
theorem WInv.first (R : List UInt8) : WInv R [] R := ⟨fun _ => ⟨rfl, rfl⟩, fun h => absurd rfl h⟩
theorem WInv.sign {R u rest : List UInt8} {c : UInt8} (h : WInv R u (c :: rest)) (hc : solid c = true) : WInv R (u ++ [c]) rest := by
  refine ⟨fun e => by simp at e, fun _ => ?_⟩
  by_cases hu : u = []
  · obtain ⟨h1, h2⟩ := h.1 hu
    rw [h1, h2, hu]
    unfold wordW wordT
    rw [if_pos hc, if_pos hc]
    exact ⟨rfl, rfl⟩
  · obtain ⟨h1, h2⟩ := h.2 hu
    rw [h1, h2, List.takeWhile_cons, List.dropWhile_cons, if_pos hc, if_pos hc]
    simp
theorem WInv.skip {R rest : List UInt8} {c : UInt8} (h : WInv R [] (c :: rest)) (hc : solid c = false) : WInv R [] rest := by
  refine ⟨fun _ => ?_, fun e => absurd rfl e⟩
  obtain ⟨h1, h2⟩ := h.1 rfl
  rw [h1, h2]
  conv => lhs; lhs; unfold wordW
  conv => rhs; lhs; unfold wordT
  rw [if_neg (by simp [hc]), if_neg (by simp [hc])]
  exact ⟨rfl, rfl⟩
theorem WInv.blank {R u rest : List UInt8} {c : UInt8} (h : WInv R u (c :: rest)) (hc : solid c = false) (hu : u ≠ []) : wordW R = u ∧ wordT R = rest := by
  obtain ⟨h1, h2⟩ := h.2 hu
  rw [h1, h2, List.takeWhile_cons, List.dropWhile_cons, if_neg (by simp [hc]), if_neg (by simp [hc])]
  simp
theorem WInv.last {R u : List UInt8} (h : WInv R u []) : wordW R = u ∧ wordT R = [] := by
  by_cases hu : u = []
  · obtain ⟨h1, h2⟩ := h.1 hu
    rw [h1, h2, hu]
    exact ⟨rfl, rfl⟩
  · obtain ⟨h1, h2⟩ := h.2 hu
    rw [h1, h2]
    simp
theorem str_toList (l : List UInt8) : (strB l).toList = l := by
  rw [ByteArray.toList_eq]; rfl
theorem str_emp {l : List UInt8} (h : l ≠ []) : (strB l).toList.isEmpty = false := by
  rw [str_toList]
  cases l with
  | nil => exact absurd rfl h
  | cons c r => rfl
/-- Up to a sign, under way: m signs were read. -/
def UInv (R : List UInt8) (c : UInt8) (m : Nat) : Prop := uptoW R c = R.take m ++ uptoW (R.drop m) c ∧ (c ∈ R ↔ c ∈ R.drop m)
theorem UInv.first (R : List UInt8) (c : UInt8) : UInv R c 0 := ⟨by simp, by simp⟩
theorem UInv.on {R : List UInt8} {c x : UInt8} {m : Nat} (h : UInv R c m) (hx : R[m]? = some x) (hne : x ≠ c) : UInv R c (m + 1) := by
  have hm := (List.getElem?_eq_some_iff.1 hx).1
  have e : R.drop m = x :: R.drop (m + 1) := by rw [List.drop_eq_getElem_cons hm, (List.getElem?_eq_some_iff.1 hx).2]
  obtain ⟨h1, h2⟩ := h
  rw [e] at h1 h2
  refine ⟨?_, ?_⟩
  · rw [h1, List.take_add_one, hx]
    unfold uptoW
    rw [List.takeWhile_cons, if_pos (by unfold notC; simpa using hne)]
    simp
  · rw [h2]
    simp
    intro e
    exact absurd e.symm hne
theorem UInv.found {R : List UInt8} {c : UInt8} {m : Nat} (h : UInv R c m) (hx : R[m]? = some c) : uptoW R c = R.take m ∧ c ∈ R ∧ (R.take m).length = m := by
  have hm := (List.getElem?_eq_some_iff.1 hx).1
  have e : R.drop m = c :: R.drop (m + 1) := by rw [List.drop_eq_getElem_cons hm, (List.getElem?_eq_some_iff.1 hx).2]
  obtain ⟨h1, h2⟩ := h
  rw [e] at h1 h2
  refine ⟨?_, h2.2 (by simp), by rw [List.length_take]; omega⟩
  rw [h1]
  unfold uptoW
  rw [List.takeWhile_cons, if_neg (by unfold notC; simp)]
  simp
theorem UInv.no {R : List UInt8} {c : UInt8} {m : Nat} (h : UInv R c m) (hm : R.length ≤ m) : uptoW R c = R ∧ ¬ c ∈ R := by
  obtain ⟨h1, h2⟩ := h
  rw [List.drop_eq_nil_of_le hm] at h1 h2
  refine ⟨?_, fun hc => by simpa using h2.1 hc⟩
  rw [h1, List.take_of_length_le hm]
  simp [uptoW]
theorem dropW_suf (p : UInt8 → Bool) (r : List UInt8) : ∃ n, n ≤ r.length ∧ r.dropWhile p = r.drop n := by
  induction r with
  | nil => exact ⟨0, Nat.le_refl _, rfl⟩
  | cons c r ih =>
    rw [List.dropWhile_cons]
    split
    · obtain ⟨n, h1, h2⟩ := ih
      exact ⟨n + 1, by simp; omega, by rw [h2]; rfl⟩
    · exact ⟨0, Nat.zero_le _, rfl⟩
theorem wordT_suf (r : List UInt8) : ∃ n, n ≤ r.length ∧ wordT r = r.drop n := by
  induction r with
  | nil => exact ⟨0, Nat.le_refl _, rfl⟩
  | cons c r ih =>
    unfold wordT
    split
    · obtain ⟨n, h1, h2⟩ := dropW_suf solid r
      rw [h2, List.drop_drop]
      by_cases h : n + 1 ≤ r.length
      · exact ⟨n + 1 + 1, by simp; omega, by rw [List.drop_succ_cons]⟩
      · refine ⟨r.length + 1, by simp, ?_⟩
        rw [List.drop_eq_nil_of_le (by omega), List.drop_eq_nil_of_le (by simp)]
    · obtain ⟨n, h1, h2⟩ := ih
      exact ⟨n + 1, by simp; omega, by rw [h2]; rfl⟩
/-- A rest of a line. -/
def Rem (l R : List UInt8) : Prop := ∃ k, k ≤ l.length ∧ R = l.drop k
theorem Rem.all (l : List UInt8) : Rem l l := ⟨0, Nat.zero_le _, rfl⟩
theorem Rem.word {l R : List UInt8} (h : Rem l R) : Rem l (wordT R) := by
  obtain ⟨k, hk, rfl⟩ := h
  obtain ⟨n, h1, h2⟩ := wordT_suf (l.drop k)
  rw [List.length_drop] at h1
  exact ⟨k + n, by omega, by rw [h2, List.drop_drop]⟩
theorem Rem.le {l R : List UInt8} (h : Rem l R) : R.length ≤ l.length := by
  obtain ⟨k, hk, rfl⟩ := h
  rw [List.length_drop]
  omega
theorem Rem.drop {l R : List UInt8} (h : Rem l R) : l.drop (l.length - R.length) = R := by
  obtain ⟨k, hk, rfl⟩ := h
  rw [List.length_drop]
  congr 1
  omega
/-- A word at a place that a word left. -/
theorem word_at {l R : List UInt8} (h : Rem l R) : wordAt l ((l.length - R.length : Nat) : Int) = wordW R ∧ nextN l ((l.length - R.length : Nat) : Int) = l.length - (wordT R).length := by
  unfold wordAt nextN
  rw [startN_nat (by omega), h.drop]
  exact ⟨rfl, rfl⟩
theorem upC_low {c : UInt8} (h1 : 97 ≤ c.toNat) (h2 : c.toNat ≤ 122) : ((upC c).toNat : Int) = (c.toNat : Int) - 32 := by
  unfold upC
  rw [if_pos ⟨h1, h2⟩]
  have : (c - 32).toNat = c.toNat - 32 := by
    rw [UInt8.toNat_sub_of_le]
    · rfl
    · show (32 : UInt8).toNat ≤ c.toNat
      have : (32 : UInt8).toNat = 32 := rfl
      omega
  omega
theorem upC_same {c : UInt8} (h : ¬ (97 ≤ c.toNat ∧ c.toNat ≤ 122)) : upC c = c := by unfold upC; rw [if_neg h]
theorem upper_step {l : List UInt8} {k : Nat} {c : UInt8} (h : l[k]? = some c) : upperF (l.take (k + 1)) = upperF (l.take k) ++ [upC c] := by
  unfold upperF
  rw [List.take_add_one, h]
  simp
theorem upper_len (l : List UInt8) : (upperF l).length = l.length := by unfold upperF; simp
end Go.Proofs.YtbighilgkmfemaaDoor

/- Contracts of the document's Upper, Alike, Same. -/
namespace Go.Proofs.YtbighilgkmfemaaDoor
open Go.RowKit
set_option linter.unusedVariables false
set_option linter.unusedSimpArgs false

set_option maxRecDepth 100000 in
set_option maxHeartbeats 4000000 in
theorem rupper_any (l : List UInt8) (w : World) (hl : l.length ≤ 100000) : Calls Tryd.prog 63 #[.string (strB l)] w fun e w' => e = .returned (.string (strB (upperF l))) ∧ Below w.heap.size w w' := by
  have hsz : (strB l).size = l.length := rfl
  go_enter Tryd.func63, Tryd.ntmps63
  go_wp2_with fail
  go_loopw [3, 4] (fun s3 s4 wr => ∃ (k : Nat), s3 = .string (strB (upperF (l.take k))) ∧ s4 = .int .i64 (k : Int) ∧ k ≤ l.length ∧ Hid (Below w.heap.size w wr)) (fun _ s4 _ => l.length - (intOf s4).toNat)
  case atStart => exact ⟨0, rfl, rfl, Nat.zero_le _, Lib.hid (Below.refl _ _)⟩
  case round =>
    obtain ⟨k, rfl, rfl, hk, HB⟩ := hrel
    by_cases hkl : k < l.length
    · have hkl' : (k : Int) < (l.length : Int) := by omega
      obtain ⟨c, hc⟩ : ∃ c, l[k]? = some c := ⟨_, List.getElem?_eq_getElem hkl⟩
      have ixk := ix_at l k c hc
      have HS := Lib.hid (upper_step hc)
      have hlen : (upperF (l.take k)).length = k := by rw [upper_len, List.length_take]; omega
      obtain ⟨u, eu⟩ : ∃ u, upperF (l.take k) = u := ⟨_, rfl⟩
      rw [eu] at HS hlen ⊢
      have hap : strB u ++ strB [upC c] = strB (u ++ [upC c]) := strB_app u [upC c]
      have hcat := cat_ok (a := u) (b := [upC c]) (by simp; omega)
      have hcv := conv_one (upC c) wr
      clear hc eu hlen
      by_cases h97 : 97 ≤ c.toNat
      · have g97 : (97 : Int) ≤ (c.toNat : Int) := by omega
        by_cases h122 : c.toNat ≤ 122
        · have g122 : (c.toNat : Int) ≤ 122 := by omega
          have hx := upC_low h97 h122
          have hx2 : ((c.toNat : Int) - 32) % 256 = ((upC c).toNat : Int) := by omega
          rw [hx] at hcv
          obtain ⟨x, ex⟩ : ∃ x, upC c = x := ⟨_, rfl⟩
          rw [ex] at hap hcat hcv hx hx2 HS
          have hx3 : ((c.toNat : Int) - 32) = (x.toNat : Int) := hx.symm
          rw [hx3] at hcv
          have hx4 : (x.toNat : Int) % 256 = (x.toNat : Int) := by have := x.toNat_lt; omega
          have hx5 : IntKind.u8.wrap (x.toNat : Int) = (x.toNat : Int) := by rw [IntKind.wrap_u8]; exact hx4
          clear ex h97 h122 hx hx2
          go_wp2_with fail
          go_roundw
          case rel => exact ⟨k + 1, by rw [HS.out], by simp, by omega, Lib.hid (alloc_then HB.out)⟩
          case measure => simp [intOf]; omega
        · have g122 : decide ((c.toNat : Int) ≤ 122) = false := by simp; omega
          rw [upC_same (by omega)] at hap hcat hcv HS
          clear h97 h122
          go_wp2_with fail
          go_roundw
          case rel => exact ⟨k + 1, by rw [HS.out], by simp, by omega, Lib.hid (alloc_then HB.out)⟩
          case measure => simp [intOf]; omega
      · have g97 : decide ((97 : Int) ≤ (c.toNat : Int)) = false := by simp; omega
        rw [upC_same (by omega)] at hap hcat hcv HS
        clear h97
        go_wp2_with fail
        go_roundw
        case rel => exact ⟨k + 1, by rw [HS.out], by simp, by omega, Lib.hid (alloc_then HB.out)⟩
        case measure => simp [intOf]; omega
    · obtain rfl : k = l.length := by omega
      have HT : Hid (l.take l.length = l) := List.take_length
      clear hkl hk
      go_wp2_with fail
      go_ret
      exact ⟨by rw [HT.out]; rfl, HB.out⟩

theorem alike_yes {a b : List UInt8} (h : upperF a = upperF b) : alikeF a b = true := by unfold alikeF; simpa using h
theorem alike_no {a b : List UInt8} (h : ¬ upperF a = upperF b) : alikeF a b = false := by unfold alikeF; simpa using h
set_option maxRecDepth 100000 in
theorem ralike_any (a b : List UInt8) (w : World) (ha : a.length ≤ 100000) (hb : b.length ≤ 100000) : Calls Tryd.prog 25 #[.string (strB a), .string (strB b)] w fun e w' => e = .returned (.bool (alikeF a b)) ∧ Below w.heap.size w w' := by
  have HA := Lib.hid (fun w => rupper_any a w ha)
  have HB := Lib.hid (fun w => rupper_any b w hb)
  clear ha hb
  by_cases he : upperF a = upperF b
  · have H : Hid (alikeF a b = true) := alike_yes he
    rw [H.out]
    rw [he] at HA
    clear he
    go_enter Tryd.func25, Tryd.ntmps25
    go_wp2_with fail
    refine (HA.out _).mono ?_
    rintro e w1 ⟨rfl, b1⟩
    go_wp2_with fail
    refine (HB.out _).mono ?_
    rintro e w2 ⟨rfl, b2⟩
    go_wp2_with fail
    go_ret
    exact ⟨rfl, below_then b1 b2⟩
  · have H : Hid (alikeF a b = false) := alike_no he
    have hne := str_ne (a := strB (upperF a)) (b := strB (upperF b)) (fun e => he (strB_inj e))
    rw [H.out]
    clear he
    go_enter Tryd.func25, Tryd.ntmps25
    go_wp2_with fail
    refine (HA.out _).mono ?_
    rintro e w1 ⟨rfl, b1⟩
    go_wp2_with fail
    refine (HB.out _).mono ?_
    rintro e w2 ⟨rfl, b2⟩
    go_wp2_with fail
    go_ret
    exact ⟨rfl, below_then b1 b2⟩

end Go.Proofs.YtbighilgkmfemaaDoor

/- What the calls of package dict answer, as plain functions, by the document's own words. -/
namespace Go.Proofs.YtbighilgkmfemaaDoor
open Go.RowKit
set_option linter.unusedVariables false
set_option linter.unusedSimpArgs false

/-- Why a name may not be; 0: it may. -/
def namedC (nm : List UInt8) : Int := if nm = [] then -16 else if 31 < nm.length then -19 else if nm.all solid = true then 0 else -32
def flagB (f : Int) : Bool := decide (0 ≤ f ∧ f ≤ 7)
theorem flagB_iff (f : Int) : flagB f = true ↔ (0 ≤ f ∧ f ≤ 7) := by unfold flagB; simp
theorem flagB_no (f : Int) : flagB f = false ↔ ¬ (0 ≤ f ∧ f ≤ 7) := by unfold flagB; rw [decide_eq_false_iff_not]
def wordB (q : Wr) : Bool := decide (namedC q.nm = 0) && flagB q.fl
def dRight (l : List Wr) : Bool := l.all wordB && decide (l.length ≤ 1024)
def dSame (a b : List Wr) : Bool := decide (a = b)
/-- Hidden, by its flags. -/
def hidB (f : Int) : Bool := f / 2 % 2 == 1
/-- The last one of which p holds. -/
def lastI (p : Wr → Bool) : List Wr → Option Nat
  | [] => none
  | q :: r => match lastI p r with
    | some i => some (i + 1)
    | none => if p q = true then some 0 else none
def w0 : Wr := ⟨[], 0, 0⟩
def seenP (nm : List UInt8) (q : Wr) : Bool := alikeF q.nm nm && !hidB q.fl
def findI (l : List Wr) (nm : List UInt8) : Option Nat := lastI (seenP nm) l
def gotW (l : List Wr) (i : Option Nat) : Wr := match i with | some i => l.getD i w0 | none => w0
def gotI (i : Option Nat) : Nat := i.getD 0
def roomB (l : List Wr) (limit : Int) : Bool := decide ((l.length : Int) < limit ∧ l.length < 1024)
def addC (l : List Wr) (nm : List UInt8) (fl limit : Int) : Int := if namedC nm ≠ 0 then namedC nm else if flagB fl = false then -24 else if roomB l limit = false then -8 else 0
def addL (l : List Wr) (nm : List UInt8) (xt fl limit : Int) : List Wr := if addC l nm fl limit = 0 then l ++ [⟨nm, xt, fl⟩] else l
end Go.Proofs.YtbighilgkmfemaaDoor

/- Contracts of the document's named, hidden, Few, Right, Same. -/
namespace Go.Proofs.YtbighilgkmfemaaDoor
open Go.RowKit
set_option linter.unusedVariables false
set_option linter.unusedSimpArgs false

theorem dall_take {p : UInt8 → Bool} {l : List UInt8} {k : Nat} {c : UInt8} (h : (l.take k).all p = true) (hc : l[k]? = some c) (hp : p c = true) : (l.take (k + 1)).all p = true := by
  rw [List.take_add_one, hc, List.all_append, h]
  simp [hp]
theorem dall_no {p : UInt8 → Bool} {l : List UInt8} {k : Nat} {c : UInt8} (hc : l[k]? = some c) (hp : p c = false) : l.all p = false := by
  rw [List.all_eq_false]
  exact ⟨c, List.mem_of_getElem? hc, by simp [hp]⟩
set_option maxRecDepth 100000 in
set_option maxHeartbeats 4000000 in
theorem rnamed_any (l : List UInt8) (w : World) : Calls Tryd.prog 67 #[.string (strB l)] w fun e w' => e = .returned (.int .i64 (namedC l)) ∧ w = w' := by
  have hsz : (strB l).size = l.length := rfl
  by_cases h0 : l = []
  · have H : Hid (namedC l = -16) := by show _ = _; unfold namedC; rw [if_pos h0]
    rw [H.out]
    subst h0
    have hsz0 : (strB []).size = 0 := rfl
    clear hsz
    go_enter Tryd.func67, Tryd.ntmps67
    go_wp2
    go_ret
    exact ⟨rfl, rfl⟩
  · have hl0 : ((l.length : Int) == 0) = false := by
      cases l with
      | nil => exact absurd rfl h0
      | cons c r => simp; omega
    by_cases h31 : 31 < l.length
    · have H : Hid (namedC l = -19) := by show _ = _; unfold namedC; rw [if_neg h0, if_pos h31]
      rw [H.out]
      have h31' : (31 : Int) < (l.length : Int) := by omega
      clear h0 h31
      go_enter Tryd.func67, Tryd.ntmps67
      go_wp2
      go_ret
      exact ⟨rfl, rfl⟩
    · have h31' : decide ((31 : Int) < (l.length : Int)) = false := by simp; omega
      have hl31 : l.length ≤ 31 := by omega
      have HC : Hid (namedC l = if l.all solid = true then 0 else -32) := by show _ = _; unfold namedC; rw [if_neg h0, if_neg h31]
      clear h0 h31
      go_enter Tryd.func67, Tryd.ntmps67
      go_wp2_with fail
      go_loopw [3] (fun s3 wr => ∃ (k : Nat), s3 = .int .i64 (k : Int) ∧ k ≤ l.length ∧ Hid ((l.take k).all solid = true) ∧ w = wr) (fun s3 _ => l.length - (intOf s3).toNat)
      case atStart => exact ⟨0, rfl, Nat.zero_le _, Lib.hid rfl, rfl⟩
      case round =>
        obtain ⟨k, rfl, hk, HT, rfl⟩ := hrel
        by_cases hkl : k < l.length
        · have hkl' : (k : Int) < (l.length : Int) := by omega
          obtain ⟨c, hc⟩ : ∃ c, l[k]? = some c := ⟨_, List.getElem?_eq_getElem hkl⟩
          have ixk := ix_at l k c hc
          by_cases h32 : 32 < c.toNat
          · have h32' : decide ((c.toNat : Int) ≤ 32) = false := by simp; omega
            have HN := Lib.hid (dall_take HT.out hc (solid_yes h32))
            clear hc h32 HT
            go_wp2_with fail
            go_roundw
            case rel => exact ⟨k + 1, by simp, by omega, HN, (by first | rfl | trivial)⟩
            case measure => simp [intOf]; omega
          · have h32' : (c.toNat : Int) ≤ 32 := by omega
            have HN := Lib.hid (dall_no hc (solid_no h32))
            have H : Hid (namedC l = -32) := by show _ = _; rw [HC.out, HN.out]; rfl
            clear hc h32 HT
            go_wp2_with fail
            go_ret
            exact ⟨by rw [H.out]; rfl, rfl⟩
        · obtain rfl : k = l.length := by omega
          rw [List.take_length] at HT
          have H : Hid (namedC l = 0) := by show _ = _; rw [HC.out, HT.out]; rfl
          clear hkl hk
          go_wp2_with fail
          go_ret
          exact ⟨by rw [H.out]; rfl, rfl⟩

set_option maxRecDepth 100000 in
theorem rhidden_any (q : Wr) (w : World) (h0 : 0 ≤ q.fl) (h1 : q.fl ≤ 7) : Calls Tryd.prog 26 #[.agg #[.string (strB q.nm), .int .i64 q.xt, .int .i64 q.fl]] w fun e w' => e = .returned (.bool (hidB q.fl)) ∧ Below w.heap.size w w' := by
  go_enter Tryd.func26, Tryd.ntmps26
  go_wp2_with fail
  go_ret
  exact ⟨rfl, al_one _ _⟩

end Go.Proofs.YtbighilgkmfemaaDoor

/- Plain facts on dictionaries. -/
namespace Go.Proofs.YtbighilgkmfemaaDoor
open Go.RowKit
set_option linter.unusedVariables false
set_option linter.unusedSimpArgs false

theorem lastI_app (p : Wr → Bool) (a b : List Wr) : lastI p (a ++ b) = match lastI p b with | some i => some (a.length + i) | none => lastI p a := by
  induction a with
  | nil =>
    show lastI p b = _
    cases lastI p b with
    | none => rfl
    | some i => simp
  | cons q a ih =>
    show (match lastI p (a ++ b) with | some i => some (i + 1) | none => _) = _
    rw [ih]
    cases h : lastI p b with
    | none => rfl
    | some i => simp; omega
theorem lastI_cons_none {p : Wr → Bool} {q : Wr} {r : List Wr} (h : lastI p r = none) : lastI p (q :: r) = if p q = true then some 0 else none := by
  show (match lastI p r with | some i => some (i + 1) | none => _) = _
  rw [h]
theorem lastI_at {p : Wr → Bool} {l : List Wr} {k : Nat} {q : Wr} (hq : l[k]? = some q) (hp : p q = true) (h : lastI p (l.drop (k + 1)) = none) : lastI p l = some k := by
  have hk := (List.getElem?_eq_some_iff.1 hq).1
  have e : l = l.take k ++ (q :: l.drop (k + 1)) := by
    conv => lhs; rw [← List.take_append_drop k l]
    rw [List.drop_eq_getElem_cons hk, (List.getElem?_eq_some_iff.1 hq).2]
  rw [e, lastI_app, lastI_cons_none h, if_pos hp]
  simp
  omega
theorem lastI_step {p : Wr → Bool} {l : List Wr} {k : Nat} {q : Wr} (hq : l[k]? = some q) (hp : p q = false) (h : lastI p (l.drop (k + 1)) = none) : lastI p (l.drop k) = none := by
  have hk := (List.getElem?_eq_some_iff.1 hq).1
  rw [List.drop_eq_getElem_cons hk, (List.getElem?_eq_some_iff.1 hq).2, lastI_cons_none h, if_neg (by simp [hp])]
theorem gotW_at {l : List Wr} {k : Nat} {q : Wr} (hq : l[k]? = some q) : gotW l (some k) = q := by
  show l.getD k w0 = q
  rw [List.getD, hq]
  rfl
/-- A word in a block of its own. -/
def WBox (w : World) (b : Nat) (q : Wr) : Prop := w.heap[b]? = some (.cells #[.string (strB q.nm), .int .i64 q.xt, .int .i64 q.fl] 45 (0, 0))
theorem WBox.lt {w : World} {b : Nat} {q : Wr} (h : WBox w b q) : b < w.heap.size := (Array.getElem?_eq_some_iff.1 h).1
theorem WBox.keep {w w' : World} {b : Nat} {q : Wr} (h : WBox w b q) (k : Below w.heap.size w w') : WBox w' b q := (k.block b h.lt).trans h
theorem WBox.use {w : World} {b : Nat} {q : Wr} (h : WBox w b q) : w.cell? ⟨b, 0, none⟩ = some (.string (strB q.nm)) ∧ w.cell? ⟨b, 1, none⟩ = some (.int .i64 q.xt) ∧ w.cell? ⟨b, 2, none⟩ = some (.int .i64 q.fl) ∧ w.frozen? ⟨b, 0, none⟩ = false ∧ w.frozen? ⟨b, 1, none⟩ = false ∧ w.frozen? ⟨b, 2, none⟩ = false := by
  unfold WBox at h
  refine ⟨?_, ?_, ?_, ?_, ?_, ?_⟩ <;> simp [World.cell?, World.frozen?, h]
theorem wbox_new (w : World) (q : Wr) : WBox (w.alloc (.cells #[.string (strB q.nm), .int .i64 q.xt, .int .i64 q.fl] 45)) w.heap.size q := one_newN w _ _
theorem wbox_zero (w : World) : WBox (w.alloc (.cells #[.string ⟨#[]⟩, .int .i64 0, .int .i64 0] 45)) w.heap.size w0 := one_newN w _ _
theorem WBox.put {w : World} {b : Nat} {q : Wr} (h : WBox w b q) (q' : Wr) : WBox (((w.setCell ⟨b, 0, none⟩ (.string (strB q'.nm))).setCell ⟨b, 1, none⟩ (.int .i64 q'.xt)).setCell ⟨b, 2, none⟩ (.int .i64 q'.fl)) b q' := by
  have h1 := Go.Joins.block_setCell (i := 0) h (.string (strB q'.nm))
  have h2 := Go.Joins.block_setCell (i := 1) h1 (.int .i64 q'.xt)
  have h3 := Go.Joins.block_setCell (i := 2) h2 (.int .i64 q'.fl)
  simpa [WBox] using h3
theorem WBox.put0 {w : World} {b : Nat} {q : Wr} (h : WBox w b q) :
    (((w.setCell ⟨b, 0, none⟩ (.string ⟨#[]⟩)).setCell ⟨b, 1, none⟩ (.int .i64 0)).setCell ⟨b, 2, none⟩ (.int .i64 0)).cell? ⟨b, 0, none⟩ = some (.string ⟨#[]⟩) ∧
    (((w.setCell ⟨b, 0, none⟩ (.string ⟨#[]⟩)).setCell ⟨b, 1, none⟩ (.int .i64 0)).setCell ⟨b, 2, none⟩ (.int .i64 0)).cell? ⟨b, 1, none⟩ = some (.int .i64 0) ∧
    (((w.setCell ⟨b, 0, none⟩ (.string ⟨#[]⟩)).setCell ⟨b, 1, none⟩ (.int .i64 0)).setCell ⟨b, 2, none⟩ (.int .i64 0)).cell? ⟨b, 2, none⟩ = some (.int .i64 0) :=
  ⟨(h.put w0).use.1, (h.put w0).use.2.1, (h.put w0).use.2.2.1⟩
theorem below_wset {w0 w : World} {B : Nat} (h : Below B w0 w) {b : Nat} (hb : B ≤ b) (x y z : Value) : Below B w0 (((w.setCell ⟨b, 0, none⟩ x).setCell ⟨b, 1, none⟩ y).setCell ⟨b, 2, none⟩ z) :=
  ((h.setCell (p := ⟨b, 0, none⟩) hb x).setCell (p := ⟨b, 1, none⟩) hb y).setCell (p := ⟨b, 2, none⟩) hb z
end Go.Proofs.YtbighilgkmfemaaDoor

/- Contracts of the document's Of. -/
namespace Go.Proofs.YtbighilgkmfemaaDoor
open Go.RowKit
set_option linter.unusedVariables false
set_option linter.unusedSimpArgs false

/-- What Find and Of answer. -/
abbrev GotOut (q : Wr) (i : Nat) (b : Bool) (w : World) (e : Ending) (w' : World) : Prop := e = .returned (.tuple #[.agg #[.string (strB q.nm), .int .i64 q.xt, .int .i64 q.fl], .int .i64 (i : Int), .bool b]) ∧ Below w.heap.size w w'

end Go.Proofs.YtbighilgkmfemaaDoor

/- Contracts of the document's Find. -/
namespace Go.Proofs.YtbighilgkmfemaaDoor
open Go.RowKit
set_option linter.unusedVariables false
set_option linter.unusedSimpArgs false

set_option maxRecDepth 100000 in
set_option maxHeartbeats 4000000 in
theorem rfind_any (A : Option Addr) (n c : Nat) (l : List Wr) (nm : List UInt8) (w : World) (h : Wds w (.slice A n c) l) (hn : n ≤ 1000000) (hfl : ∀ q ∈ l, 0 ≤ q.fl ∧ q.fl ≤ 7) (hnl : ∀ q ∈ l, q.nm.length ≤ 100000) (hm : nm.length ≤ 100000) : Calls Tryd.prog 9 #[.slice A n c, .string (strB nm)] w (GotOut (gotW l (findI l nm)) (gotI (findI l nm)) (findI l nm).isSome w) := by
  have hl := h.len
  subst hl
  have HA := Lib.hid h
  have HN : Hid (l.length ≤ 1000000) := hn
  have hw1 : wrap64 ((l.length : Int) - 1) = (l.length : Int) - 1 := w64_id (by omega) (by omega)
  have HFL : Hid (∀ q ∈ l, 0 ≤ q.fl ∧ q.fl ≤ 7) := hfl
  have HNL : Hid (∀ q ∈ l, q.nm.length ≤ 100000) := hnl
  clear h hn hfl hnl
  unfold GotOut
  go_enter Tryd.func9, Tryd.ntmps9
  go_wp2_with fail
  try rw [hw1]
  clear hw1
  obtain ⟨W, hW⟩ : ∃ W, w.alloc (.cells #[.string ⟨#[]⟩, .int .i64 0, .int .i64 0] 45) = W := ⟨_, rfl⟩
  have hB := al_one w (.cells #[.string ⟨#[]⟩, .int .i64 0, .int .i64 0] 45)
  have hX := wbox_zero w
  rw [hW] at hB hX
  have HX := Lib.hid hX
  have HB := Lib.hid hB
  have HW := Lib.hid hW
  rw [HW.out]
  clear hB hX hW
  go_loopw [7] (fun s7 wr => ∃ (k : Nat) (i : Int), s7 = .int .i64 i ∧ i = (k : Int) - 1 ∧ k ≤ l.length ∧ Hid (lastI (seenP nm) (l.drop k) = none) ∧ Hid (Below W.heap.size W wr)) (fun s7 _ => (intOf s7 + 1).toNat)
  case atStart => exact ⟨l.length, _, rfl, rfl, Nat.le_refl _, Lib.hid (by rw [List.drop_length]; rfl), Lib.hid (Below.refl _ _)⟩
  case round =>
    obtain ⟨k, i, rfl, hi, hk, HL, HB2⟩ := hrel
    have XZ := Lib.hid (HX.out.keep HB2.out)
    have HBB := Lib.hid (below_then HB.out HB2.out)
    obtain ⟨z0, z1, z2, z3, z4, z5⟩ := XZ.out.use
    have lz := XZ.out.lt
    cases k with
    | zero =>
      have hi1 : decide (0 ≤ i) = false := by simp; omega
      have H : Hid (findI l nm = none) := by have := HL.out; rwa [List.drop_zero] at this
      clear hi HL hk
      go_wp2_with fail
      obtain ⟨r0, r1, r2⟩ := XZ.out.put0
      rw [H.out]
      refine bodyPost_ret (v := .tuple #[.agg #[.string ⟨#[]⟩, .int .i64 0, .int .i64 0], .int .i64 0, .bool false]) ?_ rfl ?_
      · first
          | (simp [results, Tryd.results9, go_sem, r0, r1, r2]; done)
          | (have r0' := r0; have r1' := r1; have r2' := r2; simp only [w0] at r0' r1' r2'; simp [results, Tryd.results9, go_sem, r0', r1', r2', w0]; done)
      · exact ⟨rfl, below_wset HBB.out (Nat.le_refl _) _ _ _⟩
    | succ k =>
      obtain rfl : i = (k : Int) := by omega
      have hkl : k < l.length := by omega
      obtain ⟨g, o, hA, c1, c2, c3⟩ := wds_cell (HA.out.keep (below_then HB.out HB2.out)) hkl
      have hx : l[k]? = some l[k] := List.getElem?_eq_getElem hkl
      obtain ⟨q, eq⟩ : ∃ q, l[k] = q := ⟨_, rfl⟩
      rw [eq] at c1 c2 c3 hx
      have hkl' : (k : Int) < (l.length : Int) := by omega
      have hln := HN.out
      subst hA
      have hfl := HFL.out q (List.mem_of_getElem? hx)
      have HK := Lib.hid (fun w => ralike_any q.nm nm w (HNL.out q (List.mem_of_getElem? hx)) hm)
      have HH := Lib.hid (fun w => rhidden_any q w hfl.1 hfl.2)
      have HCC : Hid (wr.cell? ⟨g, o + k * 3, none⟩ = some (.string (strB q.nm)) ∧ wr.cell? ⟨g, o + k * 3 + 1, none⟩ = some (.int .i64 q.xt) ∧ wr.cell? ⟨g, o + k * 3 + 2, none⟩ = some (.int .i64 q.fl)) := ⟨c1, c2, c3⟩
      have hg := World.block_lt_of_cell? wr ⟨g, o + k * 3, none⟩ c1
      have HXK := Lib.hid hx
      have HKL := Lib.hid hk
      clear hfl hx eq hi hk
      have HC2 := HCC
      have hg2 := hg
      have XZ2 := XZ
      clear HBB HCC hg
      cases hK : alikeF q.nm nm with
      | false =>
        rw [hK] at HK
        have HN2 := Lib.hid (lastI_step (p := seenP nm) HXK.out (by unfold seenP; rw [hK]; rfl) HL.out)
        clear hK HL
        go_wp2_with fail
        refine (HK.out _).mono ?_
        rintro e1 w5 ⟨rfl, b5⟩
        obtain ⟨d1, d2, d3⟩ := HC2.out
        have HC5 : Hid (w5.cell? ⟨g, o + k * 3, none⟩ = some (.string (strB q.nm)) ∧ w5.cell? ⟨g, o + k * 3 + 1, none⟩ = some (.int .i64 q.xt) ∧ w5.cell? ⟨g, o + k * 3 + 2, none⟩ = some (.int .i64 q.fl)) := ⟨(b5.cell (p := ⟨g, o + k * 3, none⟩) hg2).trans d1, (b5.cell (p := ⟨g, o + k * 3 + 1, none⟩) hg2).trans d2, (b5.cell (p := ⟨g, o + k * 3 + 2, none⟩) hg2).trans d3⟩
        have hg5 : g < w5.heap.size := Nat.lt_of_lt_of_le hg2 b5.size
        have XZ5 := Lib.hid (XZ2.out.keep b5)
        have HB5 := Lib.hid (below_then HB2.out b5)
        clear b5 d1 d2 d3 c1 c2 c3 z0 z1 z2 z3 z4 z5 lz
        obtain ⟨c1, c2, c3⟩ := HC5.out
        obtain ⟨z0, z1, z2, z3, z4, z5⟩ := XZ5.out.use
        have lz := XZ5.out.lt
        go_wp2_with fail
        go_roundw
        case rel => exact ⟨k, _, rfl, (by first | rfl | exact w64_id (by omega) (by omega)), by omega, HN2, HB5⟩
        case measure => first | (simp [intOf]; done) | (simp [intOf]; omega) | (rw [w64_id (by omega) (by omega)]; simp [intOf])
      | true =>
        rw [hK] at HK
        cases hHd : hidB q.fl with
        | true =>
          rw [hHd] at HH
          have HN2 := Lib.hid (lastI_step (p := seenP nm) HXK.out (by unfold seenP; rw [hK, hHd]; rfl) HL.out)
          clear hK hHd HL
          go_wp2_with fail
          refine (HK.out _).mono ?_
          rintro e1 w5 ⟨rfl, b5⟩
          obtain ⟨d1, d2, d3⟩ := HC2.out
          have HC5 : Hid (w5.cell? ⟨g, o + k * 3, none⟩ = some (.string (strB q.nm)) ∧ w5.cell? ⟨g, o + k * 3 + 1, none⟩ = some (.int .i64 q.xt) ∧ w5.cell? ⟨g, o + k * 3 + 2, none⟩ = some (.int .i64 q.fl)) := ⟨(b5.cell (p := ⟨g, o + k * 3, none⟩) hg2).trans d1, (b5.cell (p := ⟨g, o + k * 3 + 1, none⟩) hg2).trans d2, (b5.cell (p := ⟨g, o + k * 3 + 2, none⟩) hg2).trans d3⟩
          have hg5 : g < w5.heap.size := Nat.lt_of_lt_of_le hg2 b5.size
          have XZ5 := Lib.hid (XZ2.out.keep b5)
          have HB5 := Lib.hid (below_then HB2.out b5)
          clear b5 d1 d2 d3 c1 c2 c3 z0 z1 z2 z3 z4 z5 lz
          obtain ⟨c1, c2, c3⟩ := HC5.out
          obtain ⟨z0, z1, z2, z3, z4, z5⟩ := XZ5.out.use
          have lz := XZ5.out.lt
          go_wp2_with fail
          refine (HH.out _).mono ?_
          rintro e2 w6 ⟨rfl, b6⟩
          obtain ⟨d1, d2, d3⟩ := HC5.out
          have HC6 : Hid (w6.cell? ⟨g, o + k * 3, none⟩ = some (.string (strB q.nm)) ∧ w6.cell? ⟨g, o + k * 3 + 1, none⟩ = some (.int .i64 q.xt) ∧ w6.cell? ⟨g, o + k * 3 + 2, none⟩ = some (.int .i64 q.fl)) := ⟨(b6.cell (p := ⟨g, o + k * 3, none⟩) hg5).trans d1, (b6.cell (p := ⟨g, o + k * 3 + 1, none⟩) hg5).trans d2, (b6.cell (p := ⟨g, o + k * 3 + 2, none⟩) hg5).trans d3⟩
          have hg6 : g < w6.heap.size := Nat.lt_of_lt_of_le hg5 b6.size
          have XZ6 := Lib.hid (XZ5.out.keep b6)
          have HB6 := Lib.hid (below_then HB5.out b6)
          clear b6 d1 d2 d3 c1 c2 c3 z0 z1 z2 z3 z4 z5 lz
          obtain ⟨c1, c2, c3⟩ := HC6.out
          obtain ⟨z0, z1, z2, z3, z4, z5⟩ := XZ6.out.use
          have lz := XZ6.out.lt
          go_wp2_with fail
          go_roundw
          case rel => exact ⟨k, _, rfl, (by first | rfl | exact w64_id (by omega) (by omega)), by omega, HN2, HB6⟩
          case measure => first | (simp [intOf]; done) | (simp [intOf]; omega) | (rw [w64_id (by omega) (by omega)]; simp [intOf])
        | false =>
          rw [hHd] at HH
          have H : Hid (findI l nm = some k) := lastI_at HXK.out (by unfold seenP; rw [hK, hHd]; rfl) HL.out
          have HG : Hid (gotW l (some k) = q) := gotW_at HXK.out
          clear hK hHd HL
          go_wp2_with fail
          refine (HK.out _).mono ?_
          rintro e1 w5 ⟨rfl, b5⟩
          obtain ⟨d1, d2, d3⟩ := HC2.out
          have HC5 : Hid (w5.cell? ⟨g, o + k * 3, none⟩ = some (.string (strB q.nm)) ∧ w5.cell? ⟨g, o + k * 3 + 1, none⟩ = some (.int .i64 q.xt) ∧ w5.cell? ⟨g, o + k * 3 + 2, none⟩ = some (.int .i64 q.fl)) := ⟨(b5.cell (p := ⟨g, o + k * 3, none⟩) hg2).trans d1, (b5.cell (p := ⟨g, o + k * 3 + 1, none⟩) hg2).trans d2, (b5.cell (p := ⟨g, o + k * 3 + 2, none⟩) hg2).trans d3⟩
          have hg5 : g < w5.heap.size := Nat.lt_of_lt_of_le hg2 b5.size
          have XZ5 := Lib.hid (XZ2.out.keep b5)
          have HB5 := Lib.hid (below_then HB2.out b5)
          clear b5 d1 d2 d3 c1 c2 c3 z0 z1 z2 z3 z4 z5 lz
          obtain ⟨c1, c2, c3⟩ := HC5.out
          obtain ⟨z0, z1, z2, z3, z4, z5⟩ := XZ5.out.use
          have lz := XZ5.out.lt
          go_wp2_with fail
          refine (HH.out _).mono ?_
          rintro e2 w6 ⟨rfl, b6⟩
          obtain ⟨d1, d2, d3⟩ := HC5.out
          have HC6 : Hid (w6.cell? ⟨g, o + k * 3, none⟩ = some (.string (strB q.nm)) ∧ w6.cell? ⟨g, o + k * 3 + 1, none⟩ = some (.int .i64 q.xt) ∧ w6.cell? ⟨g, o + k * 3 + 2, none⟩ = some (.int .i64 q.fl)) := ⟨(b6.cell (p := ⟨g, o + k * 3, none⟩) hg5).trans d1, (b6.cell (p := ⟨g, o + k * 3 + 1, none⟩) hg5).trans d2, (b6.cell (p := ⟨g, o + k * 3 + 2, none⟩) hg5).trans d3⟩
          have hg6 : g < w6.heap.size := Nat.lt_of_lt_of_le hg5 b6.size
          have XZ6 := Lib.hid (XZ5.out.keep b6)
          have HB6 := Lib.hid (below_then HB5.out b6)
          clear b6 d1 d2 d3 c1 c2 c3 z0 z1 z2 z3 z4 z5 lz
          obtain ⟨c1, c2, c3⟩ := HC6.out
          obtain ⟨z0, z1, z2, z3, z4, z5⟩ := XZ6.out.use
          have lz := XZ6.out.lt
          go_wp2_with fail
          obtain ⟨r0, r1, r2, _, _, _⟩ := (XZ6.out.put q).use
          rw [H.out, HG.out]
          refine bodyPost_ret (v := .tuple #[.agg #[.string (strB q.nm), .int .i64 q.xt, .int .i64 q.fl], .int .i64 (k : Int), .bool true]) ?_ rfl ?_
          · simp [results, Tryd.results9, go_sem, r0, r1, r2]
          · exact ⟨rfl, below_wset (below_then HB.out HB6.out) (Nat.le_refl _) _ _ _⟩
end Go.Proofs.YtbighilgkmfemaaDoor

/- Contracts of the document's Right, Same. -/
namespace Go.Proofs.YtbighilgkmfemaaDoor
open Go.RowKit
set_option linter.unusedVariables false
set_option linter.unusedSimpArgs false

theorem right_no {l : List Wr} {q : Wr} (hq : q ∈ l) (h : wordB q = false) : dRight l = false := by
  unfold dRight
  rw [show l.all wordB = false from by rw [List.all_eq_false]; exact ⟨q, hq, by simp [h]⟩]
  rfl
set_option maxRecDepth 100000 in
set_option maxHeartbeats 4000000 in
theorem rright_anyL (A : Option Addr) (n c : Nat) (l : List Wr) (w : World) (h : Wds w (.slice A n c) l) (hn : n ≤ 1000000) : Calls Tryd.prog 31 #[.slice A n c] w fun e w' => e = .returned (.bool (dRight l)) ∧ Below w.heap.size w w' := by
  have hl := h.len
  subst hl
  have HA := Lib.hid h
  clear h
  go_enter Tryd.func31, Tryd.ntmps31
  go_wp2_with fail
  go_loopw [3] (fun s5 wr => ∃ (k : Nat), s5 = .int .i64 (k : Int) ∧ k ≤ l.length ∧ Hid ((l.take k).all wordB = true) ∧ Hid (Below w.heap.size w wr)) (fun s5 _ => l.length - (intOf s5).toNat)
  case atStart => exact ⟨0, rfl, Nat.zero_le _, Lib.hid rfl, Lib.hid (Below.refl _ _)⟩
  case round =>
    obtain ⟨k, rfl, hk, HT, HB⟩ := hrel
    by_cases hkl : k < l.length
    · have hkl' : (k : Int) < (l.length : Int) := by omega
      obtain ⟨g, o, hA, c1, c2, c3⟩ := wds_cell (HA.out.keep HB.out) hkl
      have hx : l[k]? = some l[k] := List.getElem?_eq_getElem hkl
      obtain ⟨q, eq⟩ : ∃ q, l[k] = q := ⟨_, rfl⟩
      rw [eq] at c1 c2 c3 hx
      have HQ := Lib.hid (List.mem_of_getElem? hx)
      have HX := Lib.hid hx
      have HN := Lib.hid (fun w => rnamed_any q.nm w)
      obtain ⟨z, ez⟩ : ∃ z, namedC q.nm = z := ⟨_, rfl⟩
      have HZ := Lib.hid ez
      rw [ez] at HN
      subst hA
      clear hx eq ez
      by_cases hz : z = 0
      · subst hz
        by_cases h0 : q.fl < 0
        · have H : Hid (dRight l = false) := right_no HQ.out (by unfold wordB; rw [(flagB_no _).2 (by omega), Bool.and_false])
          clear HT
          go_wp2_with fail
          refine (HN.out _).mono ?_
          rintro e1 w5 ⟨rfl, rfl⟩
          go_wp2_with fail
          go_ret
          exact ⟨by rw [H.out]; rfl, HB.out⟩
        · have h0' : decide (q.fl < 0) = false := by simp; omega
          by_cases h7 : 7 < q.fl
          · have H : Hid (dRight l = false) := right_no HQ.out (by unfold wordB; rw [(flagB_no _).2 (by omega), Bool.and_false])
            clear HT h0
            go_wp2_with fail
            refine (HN.out _).mono ?_
            rintro e1 w5 ⟨rfl, rfl⟩
            go_wp2_with fail
            go_ret
            exact ⟨by rw [H.out]; rfl, HB.out⟩
          · have h7' : decide (7 < q.fl) = false := by simp; omega
            have HW : Hid (wordB q = true) := by show _ = _; unfold wordB; rw [(flagB_iff _).2 (by omega), HZ.out]; rfl
            have HT2 : Hid ((l.take (k + 1)).all wordB = true) := by
              show _ = _
              rw [List.take_add_one, HX.out, List.all_append, HT.out]
              simp [HW.out]
            clear HT h0 h7
            go_wp2_with fail
            refine (HN.out _).mono ?_
            rintro e1 w5 ⟨rfl, rfl⟩
            go_wp2_with fail
            go_roundw
            case rel => exact ⟨k + 1, by simp, by omega, HT2, HB⟩
            case measure => simp [intOf]; omega
      · have H : Hid (dRight l = false) := right_no HQ.out (by unfold wordB; rw [HZ.out]; simp [hz])
        have hz1 : ((z : Int) != 0) = true := by simpa using hz
        have hz2 : ((z : Int) == 0) = false := by simpa using hz
        clear HT
        go_wp2_with fail
        refine (HN.out _).mono ?_
        rintro e1 w5 ⟨rfl, rfl⟩
        go_wp2_with fail
        go_ret
        exact ⟨by rw [H.out]; rfl, HB.out⟩
    · obtain rfl : k = l.length := by omega
      rw [List.take_length] at HT
      have H : Hid (dRight l = decide ((l.length : Int) ≤ 1024)) := by
        show _ = _
        unfold dRight
        rw [HT.out, Bool.true_and, decide_eq_decide]
        omega
      clear hkl hk
      go_wp2_with fail
      go_ret
      exact ⟨by rw [H.out]; rfl, HB.out⟩

end Go.Proofs.YtbighilgkmfemaaDoor

/- What the calls of package pic answer, as plain functions, by the document's own words. -/
namespace Go.Proofs.YtbighilgkmfemaaDoor
open Go.RowKit
set_option linter.unusedVariables false
set_option linter.unusedSimpArgs false

/-- Is a text under way right: its signs l, whether it was begun o. -/
def pRight (o : Bool) (l : List UInt8) : Bool := decide (l.length ≤ 130 ∧ (o = true ∨ l = []))
theorem pRight_iff (o : Bool) (l : List UInt8) : pRight o l = true ↔ (l.length ≤ 130 ∧ (o = true ∨ l = [])) := by unfold pRight; simp
theorem pRight_no (o : Bool) (l : List UInt8) : pRight o l = false ↔ ¬ (l.length ≤ 130 ∧ (o = true ∨ l = [])) := by unfold pRight; rw [decide_eq_false_iff_not]
def pSame (o : Bool) (l : List UInt8) (o' : Bool) (l' : List UInt8) : Bool := decide (o = o' ∧ l = l')
/-- Has it room for a sign? -/
def pOpen (o : Bool) (l : List UInt8) : Bool := decide (o = true ∧ l.length < 130)
theorem pOpen_iff (o : Bool) (l : List UInt8) : pOpen o l = true ↔ (o = true ∧ l.length < 130) := by unfold pOpen; simp
theorem pOpen_no (o : Bool) (l : List UInt8) : pOpen o l = false ↔ ¬ (o = true ∧ l.length < 130) := by unfold pOpen; rw [decide_eq_false_iff_not]
def holdC (o : Bool) (l : List UInt8) : Int := if pOpen o l = true then 0 else -17
/-- A pair of cells without a sign; and a number as a pair. -/
def pairN (lo hi : Int) : Nat := un hi * 18446744073709551616 + un lo
def lowI (P : Nat) : Int := wrap64 ((P % 18446744073709551616 : Nat) : Int)
def highI (P : Nat) : Int := wrap64 ((P / 18446744073709551616 : Nat) : Int)
def digOK (o : Bool) (l : List UInt8) (b : Int) : Bool := baseB b && pOpen o l
def digU (lo hi b : Int) : UInt8 := UInt8.ofNat (digN (pairN lo hi % b.toNat))
def digL (o : Bool) (l : List UInt8) (lo hi b : Int) : List UInt8 := if digOK o l b = true then l ++ [digU lo hi b] else l
def digLo (o : Bool) (l : List UInt8) (lo hi b : Int) : Int := if digOK o l b = true then lowI (pairN lo hi / b.toNat) else lo
def digHi (o : Bool) (l : List UInt8) (lo hi b : Int) : Int := if digOK o l b = true then highI (pairN lo hi / b.toNat) else hi
def digC (o : Bool) (l : List UInt8) (b : Int) : Int := if baseB b = true then holdC o l else -24
/-- All digits of a pair, the first one first. -/
def figs (lo hi b : Int) : List UInt8 := usF b.toNat (pairN lo hi)
def allOK (o : Bool) (l : List UInt8) (lo hi b : Int) : Bool := baseB b && decide (o = true ∧ l.length + (figs lo hi b).length ≤ 130)
def allL (o : Bool) (l : List UInt8) (lo hi b : Int) : List UInt8 := if allOK o l lo hi b = true then l ++ (figs lo hi b).reverse else l
def allC (o : Bool) (l : List UInt8) (lo hi b : Int) : Int := if baseB b = true then (if allOK o l lo hi b = true then 0 else -17) else -24
theorem pairN_lt (lo hi : Int) : pairN lo hi < 340282366920938463463374607431768211456 := by
  unfold pairN
  have := un_lt lo
  have := un_lt hi
  omega
theorem un_low (P : Nat) : un (lowI P) = P % 18446744073709551616 := by
  have := un_mod (lowI P)
  unfold lowI wrap64 at *
  omega
theorem un_high {P : Nat} (h : P < 340282366920938463463374607431768211456) : un (highI P) = P / 18446744073709551616 := by
  have := un_mod (highI P)
  unfold highI wrap64 at *
  omega
theorem pair_back {P : Nat} (h : P < 340282366920938463463374607431768211456) : pairN (lowI P) (highI P) = P := by
  unfold pairN
  rw [un_low, un_high h]
  omega
end Go.Proofs.YtbighilgkmfemaaDoor

/- Contracts of the small functions of package cell that only compute: ULess, leansUp, size, Div. -/
namespace Go.Proofs.YtbighilgkmfemaaDoor
open Go.RowKit

end Go.Proofs.YtbighilgkmfemaaDoor

/- Plain arithmetic of natural numbers under a quotient of two digits by two (Knuth's way): no model's run is named here. -/
namespace Go.Proofs.YtbighilgkmfemaaDoor.Plain

/-- The loop's test is that the guess is too great. -/
theorem digit_test (B v1 v0 u n q r : Nat) (h : q * v1 + r = u) : B * r + n < q * v0 ↔ u * B + n < q * (v1 * B + v0) := by
  subst h
  have e1 : q * (v1 * B + v0) = q * v1 * B + q * v0 := by rw [Nat.mul_add, Nat.mul_assoc]
  have e2 : (q * v1 + r) * B = q * v1 * B + r * B := Nat.add_mul _ _ _
  have e3 : B * r = r * B := Nat.mul_comm _ _
  rw [e1, e2, e3]
  omega

theorem digit_lt (B v u n : Nat) (hu : u < v) (hn : n < B) : (u * B + n) / v < B := by
  refine Nat.div_lt_of_lt_mul ?_
  have : (u + 1) * B ≤ v * B := Nat.mul_le_mul_right _ hu
  rw [Nat.add_mul] at this
  omega

end Go.Proofs.YtbighilgkmfemaaDoor.Plain

/- The contract of math/bits.Div64: a quotient of two digits by one, and the rest. -/
namespace Go.Proofs.YtbighilgkmfemaaDoor
open Go.RowKit

/-- d is the digit by which v goes into u and one digit more, n. -/
structure DigitOf (u v v1 v0 n d : Nat) : Prop where
  parts : v1 * 4294967296 + v0 = v
  lt : u < v
  n_lt : n < 4294967296
  v0_lt : v0 < 4294967296
  v1_ge : 2147483648 ≤ v1
  v1_lt : v1 < 4294967296
  digit : (u * 4294967296 + n) / v = d

theorem DigitOf.lt_base {u v v1 v0 n d : Nat} (D : DigitOf u v v1 v0 n d) : d < 4294967296 := by
  have := Plain.digit_lt 4294967296 v u n D.lt D.n_lt
  rw [D.digit] at this
  exact this

theorem DigitOf.under {u v v1 v0 n d : Nat} (D : DigitOf u v v1 v0 n d) (j : Nat) (h : d * v1 + j = u) :
    (d : Int) * (v0 : Int) ≤ 4294967296 * (j : Int) + (n : Int) ∧ (d : Int) * (v0 : Int) ≤ 18446744073709551615 := by
  have hv := D.parts
  have h0 := D.v0_lt
  have h1 := D.v1_ge
  have hb := D.lt_base
  have ht := Plain.digit_test 4294967296 v1 v0 u n d j h
  rw [hv] at ht
  have : d * v ≤ u * 4294967296 + n := (Nat.le_div_iff_mul_le (by omega)).1 (by rw [D.digit]; omega)
  have h2 : d * v0 ≤ 4294967295 * 4294967295 := Nat.mul_le_mul (by omega) (by omega)
  rw [← Int.natCast_mul]
  omega

/-- The first guess of a digit, and what it leaves. -/
structure GuessOf (u v1 d q r : Nat) : Prop where
  quo : (u : Int) / (v1 : Int) = (q : Int)
  le : (q : Int) * (v1 : Int) ≤ (u : Int)
  rest : (u : Int) - (q : Int) * (v1 : Int) = (r : Int)
  u_le : (u : Int) ≤ 18446744073709551615
  q_le : q ≤ 4294967297
  r_lt : r < v1
  d_le : d ≤ q

theorem GuessOf.parts {u v1 d q r : Nat} (G : GuessOf u v1 d q r) : q * v1 + r = u := by
  have := G.rest; rw [← Int.natCast_mul] at this; omega
end Go.Proofs.YtbighilgkmfemaaDoor

/- Contracts of divide, UDiv, SDiv and FDiv of package cell. -/
namespace Go.Proofs.YtbighilgkmfemaaDoor
open Go.RowKit

theorem pair_abs (lo hi : Int) : (pr lo hi).natAbs / 18446744073709551616 * 18446744073709551616 + (pr lo hi).natAbs % 18446744073709551616 = (pr lo hi).natAbs := by omega

end Go.Proofs.YtbighilgkmfemaaDoor

/- Contracts of num's UShow and Show. -/
namespace Go.Proofs.YtbighilgkmfemaaDoor
open Go.RowKit
set_option linter.unusedVariables false
set_option linter.unusedSimpArgs false

theorem BOwns.keep {w w' : World} {base n : Nat} {v : Value} {l : List UInt8} (h : BOwns w base v n l) (b : Below w.heap.size w w') : BOwns w' base v n l := by
  refine ⟨h.1, ?_⟩
  rcases h.2 with h2 | ⟨g, cap, cur, e, hb, hg, h3, h4, h5, h6⟩
  · exact .inl h2
  · exact .inr ⟨g, cap, cur, e, hb, (b.block g (Array.getElem?_eq_some_iff.1 hg).1).trans hg, h3, h4, h5, h6⟩
/-- What a number's text is made of: what is to come yet, ahead of the digits that were laid, the last one first. -/
def Half (k u0 u : Nat) (m : Bool) (l : List UInt8) : Prop := (m = true → usF k u0 = usF k u ++ l.reverse) ∧ (m = false → usF k u0 = l.reverse)
theorem Half.big {k u0 u : Nat} {l : List UInt8} (h : Half k u0 u true l) (h2 : 2 ≤ k) (hu : k ≤ u) : Half k u0 (u / k) true (l ++ [UInt8.ofNat (digN (u % k))]) := by
  refine ⟨fun _ => ?_, fun h => (by cases h)⟩
  rw [h.1 rfl, usF_big h2 hu]
  simp
theorem Half.low {k u0 u : Nat} {l : List UInt8} (h : Half k u0 u true l) (h2 : 2 ≤ k) (hu : u < k) : Half k u0 (u / k) false (l ++ [UInt8.ofNat (digN (u % k))]) := by
  refine ⟨fun h => (by cases h), fun _ => ?_⟩
  rw [h.1 rfl, usF_low hu, Nat.mod_eq_of_lt hu]
  simp
theorem Half.len {k u0 u : Nat} {m : Bool} {l : List UInt8} (h : Half k u0 u m l) (h2 : 2 ≤ k) (h0 : u0 < 18446744073709551616) : l.length ≤ 64 := by
  have hl := us_le h2 63 u0 (by omega)
  cases m with
  | true => rw [h.1 rfl, List.length_append, List.length_reverse] at hl; omega
  | false => rw [h.2 rfl, List.length_reverse] at hl; omega
end Go.Proofs.YtbighilgkmfemaaDoor

/- The contract of the document's own quotient, bit by bit (udiv), and of UDiv. -/
namespace Go.Proofs.YtbighilgkmfemaaDoor
open Go.RowKit

/-- How far the quotient is, bit by bit: j bits are left. -/
structure DInv (lo hi d j q r : Nat) : Prop where
  le : j ≤ 64
  eq : hi * 2 ^ (64 - j) + lo / 2 ^ j = d * q + r
  r_lt : r < d
  q_lt : q < 2 ^ (64 - j)

theorem DInv.step {lo hi d i q r : Nat} (I : DInv lo hi d (i + 1) q r) (R : Nat) (hR : 2 * r + lo / 2 ^ i % 2 = R) :
    (d ≤ R → DInv lo hi d i (2 * q + 1) (R - d)) ∧ (R < d → DInv lo hi d i (2 * q) R) := by
  have h1 := I.le
  have h2 := I.eq
  have h3 := I.r_lt
  have h4 := I.q_lt
  have e1 : 2 ^ (64 - i) = 2 * 2 ^ (64 - (i + 1)) := by
    rw [show 64 - i = (64 - (i + 1)) + 1 by omega, Nat.pow_succ, Nat.mul_comm]
  have e2 : lo / 2 ^ i = 2 * (lo / 2 ^ (i + 1)) + lo / 2 ^ i % 2 := by
    rw [Nat.pow_succ, ← Nat.div_div_eq_div_mul]; omega
  have e3 : hi * 2 ^ (64 - i) + lo / 2 ^ i = d * (2 * q) + R := by
    rw [e1, e2, Nat.mul_left_comm d 2 q, Nat.mul_left_comm hi 2]
    generalize lo / 2 ^ i % 2 = b at *
    omega
  have hb : lo / 2 ^ i % 2 < 2 := Nat.mod_lt _ (by omega)
  constructor
  · intro hd
    refine ⟨by omega, ?_, by omega, by omega⟩
    rw [e3, Nat.mul_add, Nat.mul_one]
    omega
  · intro hd
    exact ⟨by omega, e3, hd, by omega⟩

theorem DInv.first (lo hi d : Nat) (hl : lo < 18446744073709551616) (h : hi < d) : DInv lo hi d 64 0 hi := by
  refine ⟨by omega, ?_, h, by simp⟩
  have : lo / 2 ^ 64 = 0 := Nat.div_eq_of_lt (by simpa using hl)
  rw [this]
  simp

theorem DInv.last {lo hi d q r : Nat} (I : DInv lo hi d 0 q r) : (hi * 18446744073709551616 + lo) / d = q ∧ (hi * 18446744073709551616 + lo) % d = r := by
  have h2 := I.eq
  have h3 := I.r_lt
  simp only [Nat.sub_zero, Nat.pow_zero, Nat.div_one, Nat.reducePow] at h2
  rw [h2]
  exact ⟨by rw [Nat.mul_add_div (by omega), Nat.div_eq_of_lt h3, Nat.add_zero], by rw [Nat.mul_add_mod, Nat.mod_eq_of_lt h3]⟩

end Go.Proofs.YtbighilgkmfemaaDoor

/- Contracts of SDiv and FDiv of package cell. -/
namespace Go.Proofs.YtbighilgkmfemaaDoor
open Go.RowKit

/-- What SDiv's parts are called. -/
structure PartsOf (lo hi d : Int) (pl ph D : Nat) : Prop where
  low : (pr lo hi).natAbs % 18446744073709551616 = pl
  high : (pr lo hi).natAbs / 18446744073709551616 = ph
  size : d.natAbs = D

theorem PartsOf.quo {lo hi d : Int} {pl ph D : Nat} (h : PartsOf lo hi d pl ph D) : ph * 18446744073709551616 + pl = (pr lo hi).natAbs := by
  have := pair_abs lo hi; rw [h.low, h.high] at this; exact this
theorem PartsOf.d_le {lo hi d : Int} {pl ph D : Nat} (h : PartsOf lo hi d pl ph D) (hd : cellR d) : D ≤ 9223372036854775808 := by have := h.size; unfold cellR at hd; omega

end Go.Proofs.YtbighilgkmfemaaDoor

/- What the struct arguments of layer 3's statements hold. -/
namespace Go.Proofs.YtbighilgkmfemaaDoor
open Go.ChangeShapes Go.WideShapes Go.ChangeAt Go.RowKit Go.Joins Go.Deep
set_option linter.unusedVariables false
set_option linter.unusedSimpArgs false

theorem Byt.slice {w : World} {v : Value} {l : List UInt8} (h : Byt w v l) : ∃ A n c, v = .slice A n c := by
  obtain ⟨A, c, e, _⟩ := h
  exact ⟨A, _, c, e⟩
theorem Byt.cap {w : World} {A : Option Addr} {n c : Nat} {l : List UInt8} (h : Byt w (.slice A n c) l) : n ≤ 9223372036854775807 := by
  obtain ⟨A', c', e, h1, h2, _⟩ := h
  injection e with _ e _
  have h3 : maxLen ≤ 9223372036854775807 := by decide
  omega
section
variable {H : Type} {enc : TypeId × Value → H} {w : World}
end
end Go.Proofs.YtbighilgkmfemaaDoor

/- How texts under way lie in a world. -/
namespace Go.Proofs.YtbighilgkmfemaaDoor
open Go.RowKit
set_option linter.unusedVariables false
set_option linter.unusedSimpArgs false

/-- A text under way in a block of its own. -/
abbrev PBox (w : World) (b : Nat) (A : Option Addr) (n c : Nat) (o : Bool) : Prop := Box w b (.slice A n c) (.bool o) 33
theorem len_zero {l : List UInt8} (h : l.length = 0) : l = [] := List.eq_nil_of_length_eq_zero h
theorem al_two (w : World) (o o2 : Obj) : Below w.heap.size w ((w.alloc o).alloc o2) := alloc_then (al_one w o)
theorem PBox.put {w : World} {b : Nat} {A : Option Addr} {n c : Nat} {o : Bool} (h : PBox w b A n c o) (x y : Value) : Box ((w.setCell ⟨b, 0, none⟩ x).setCell ⟨b, 1, none⟩ y) b x y 33 := Box.put h x y
theorem byt_slice {w : World} {v : Value} {l : List UInt8} (h : Byt w v l) : ∃ A n c, v = .slice A n c := by
  obtain ⟨A, c, e, _⟩ := h
  exact ⟨A, _, c, e⟩
/-- A text under way, with its signs, in a block. -/
def PAt (b : Nat) (A : Option Addr) (n c : Nat) (o : Bool) (l : List UInt8) (w : World) : Prop := PBox w b A n c o ∧ Byt w (.slice A n c) l
theorem PAt.keep {b : Nat} {A : Option Addr} {n c : Nat} {o : Bool} {l : List UInt8} {w w' : World} (h : PAt b A n c o l w) (k : Below w.heap.size w w') : PAt b A n c o l w' := ⟨Box.keep h.1 k, h.2.keep k⟩
theorem PAt.use {b : Nat} {A : Option Addr} {n c : Nat} {o : Bool} {l : List UInt8} {w : World} (h : PAt b A n c o l w) : w.cell? ⟨b, 0, none⟩ = some (.slice A n c) ∧ w.cell? ⟨b, 1, none⟩ = some (.bool o) := ⟨(Box.use h.1).1, (Box.use h.1).2.1⟩
theorem PAt.lt {b : Nat} {A : Option Addr} {n c : Nat} {o : Bool} {l : List UInt8} {w : World} (h : PAt b A n c o l w) : b < w.heap.size := Box.lt h.1
theorem PAt.byt {b : Nat} {A : Option Addr} {n c : Nat} {o : Bool} {l : List UInt8} {w : World} (h : PAt b A n c o l w) : Byt w (.slice A n c) l := h.2
end Go.Proofs.YtbighilgkmfemaaDoor

/- Contracts of the document's Begin, Right, Same, Hold, Sign. -/
namespace Go.Proofs.YtbighilgkmfemaaDoor
open Go.RowKit
set_option linter.unusedVariables false
set_option linter.unusedSimpArgs false

set_option maxRecDepth 100000 in
theorem rright_any (A : Option Addr) (n c : Nat) (o : Bool) (l : List UInt8) (w : World) (h : Byt w (.slice A n c) l) :
    Calls Tryd.prog 32 #[.agg #[.slice A n c, .bool o]] w fun e w' => e = .returned (.bool (pRight o l)) ∧ Below w.heap.size w w' := by
  have hl := h.len
  by_cases h1 : n ≤ 130
  · have h1' : (n : Int) ≤ 130 := by omega
    cases o with
    | true =>
      have H : Hid (pRight true l = true) := (pRight_iff _ _).2 ⟨by omega, .inl rfl⟩
      rw [H.out]
      clear h hl
      go_enter Tryd.func32, Tryd.ntmps32
      go_wp2
      go_ret
      exact ⟨rfl, al_one _ _⟩
    | false =>
      by_cases h0 : n = 0
      · have H : Hid (pRight false l = true) := (pRight_iff _ _).2 ⟨by omega, .inr (len_zero (by omega))⟩
        rw [H.out]
        clear h hl
        subst h0
        go_enter Tryd.func32, Tryd.ntmps32
        go_wp2
        go_ret
        exact ⟨rfl, al_one _ _⟩
      · have H : Hid (pRight false l = false) := (pRight_no _ _).2 (by rintro ⟨_, h | h⟩; cases h; rw [h] at hl; exact h0 hl.symm)
        rw [H.out]
        have h0' : ((n : Int) == 0) = false := by simp; omega
        clear h hl
        go_enter Tryd.func32, Tryd.ntmps32
        go_wp2
        go_ret
        exact ⟨rfl, al_one _ _⟩
  · have H : Hid (pRight o l = false) := (pRight_no _ _).2 (by omega)
    have h1' : decide ((n : Int) ≤ 130) = false := by simp; omega
    rw [H.out]
    clear h hl h1
    go_enter Tryd.func32, Tryd.ntmps32
    go_wp2
    go_ret
    exact ⟨rfl, al_one _ _⟩

end Go.Proofs.YtbighilgkmfemaaDoor
