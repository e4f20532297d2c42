/- Plain facts on words. -/
import Derived.Test.YtakeaocmiblbeaaLexSpec
import Derived.Test.YtakeaocmiblbeaaStrApp
import Derived.Test.YtakeaocmiblbeaaNumCodeC
namespace Go.Proofs.Ytakeaocmiblbeaa
open Go.RowKit
set_option linter.unusedVariables false
set_option linter.unusedSimpArgs false

/-- What a word is made of under way: u was read, rest is to come. -/
def WInv (R u rest : List UInt8) : Prop := (u = [] → wordW R = wordW rest ∧ wordT R = wordT rest) ∧ (u ≠ [] → wordW R = u ++ rest.takeWhile solid ∧ wordT R = (rest.dropWhile solid).drop 1)
theorem WInv.first (R : List UInt8) : WInv R [] R := ⟨fun _ => ⟨rfl, rfl⟩, fun h => absurd rfl h⟩
theorem WInv.sign {R u rest : List UInt8} {c : UInt8} (h : WInv R u (c :: rest)) (hc : solid c = true) : WInv R (u ++ [c]) rest := by
  refine ⟨fun e => by simp at e, fun _ => ?_⟩
  by_cases hu : u = []
  · obtain ⟨h1, h2⟩ := h.1 hu
    rw [h1, h2, hu]
    unfold wordW wordT
    rw [if_pos hc, if_pos hc]
    exact ⟨rfl, rfl⟩
  · obtain ⟨h1, h2⟩ := h.2 hu
    rw [h1, h2, List.takeWhile_cons, List.dropWhile_cons, if_pos hc, if_pos hc]
    simp
theorem WInv.skip {R rest : List UInt8} {c : UInt8} (h : WInv R [] (c :: rest)) (hc : solid c = false) : WInv R [] rest := by
  refine ⟨fun _ => ?_, fun e => absurd rfl e⟩
  obtain ⟨h1, h2⟩ := h.1 rfl
  rw [h1, h2]
  conv => lhs; lhs; unfold wordW
  conv => rhs; lhs; unfold wordT
  rw [if_neg (by simp [hc]), if_neg (by simp [hc])]
  exact ⟨rfl, rfl⟩
theorem WInv.blank {R u rest : List UInt8} {c : UInt8} (h : WInv R u (c :: rest)) (hc : solid c = false) (hu : u ≠ []) : wordW R = u ∧ wordT R = rest := by
  obtain ⟨h1, h2⟩ := h.2 hu
  rw [h1, h2, List.takeWhile_cons, List.dropWhile_cons, if_neg (by simp [hc]), if_neg (by simp [hc])]
  simp
theorem WInv.last {R u : List UInt8} (h : WInv R u []) : wordW R = u ∧ wordT R = [] := by
  by_cases hu : u = []
  · obtain ⟨h1, h2⟩ := h.1 hu
    rw [h1, h2, hu]
    exact ⟨rfl, rfl⟩
  · obtain ⟨h1, h2⟩ := h.2 hu
    rw [h1, h2]
    simp
theorem strB_cut (l : List UInt8) (a b : Nat) : (strB l).extract a b = strB ((l.drop a).take (b - a)) := by
  apply ByteArray.ext
  rw [ByteArray.data_extract]
  apply Array.toList_inj.1
  simp [strB, List.extract_eq_take_drop]
theorem strB_cut_one {l : List UInt8} {k : Nat} {c : UInt8} (h : l[k]? = some c) : (strB l).extract k (k + 1) = strB [c] := by
  rw [strB_cut]
  have e : l.drop k = c :: l.drop (k + 1) := by
    have hk := (List.getElem?_eq_some_iff.1 h).1
    rw [List.drop_eq_getElem_cons hk, (List.getElem?_eq_some_iff.1 h).2]
  rw [e]
  simp
theorem strB_rest (l : List UInt8) (a : Nat) : (strB l).extract a (strB l).size = strB (l.drop a) := by
  rw [strB_cut, strB_size, List.take_of_length_le (by simp)]
theorem str_toList (l : List UInt8) : (strB l).toList = l := by
  rw [ByteArray.toList_eq]; rfl
theorem str_nil {l : List UInt8} (h : l ≠ []) : ¬ (strB l).toList = [] := by
  intro e
  apply h
  rw [str_toList] at e
  exact e
theorem str_emp {l : List UInt8} (h : l ≠ []) : (strB l).toList.isEmpty = false := by
  rw [str_toList]
  cases l with
  | nil => exact absurd rfl h
  | cons c r => rfl
/-- Up to a sign, under way: m signs were read. -/
def UInv (R : List UInt8) (c : UInt8) (m : Nat) : Prop := uptoW R c = R.take m ++ uptoW (R.drop m) c ∧ (c ∈ R ↔ c ∈ R.drop m)
theorem UInv.first (R : List UInt8) (c : UInt8) : UInv R c 0 := ⟨by simp, by simp⟩
theorem UInv.on {R : List UInt8} {c x : UInt8} {m : Nat} (h : UInv R c m) (hx : R[m]? = some x) (hne : x ≠ c) : UInv R c (m + 1) := by
  have hm := (List.getElem?_eq_some_iff.1 hx).1
  have e : R.drop m = x :: R.drop (m + 1) := by rw [List.drop_eq_getElem_cons hm, (List.getElem?_eq_some_iff.1 hx).2]
  obtain ⟨h1, h2⟩ := h
  rw [e] at h1 h2
  refine ⟨?_, ?_⟩
  · rw [h1, List.take_add_one, hx]
    unfold uptoW
    rw [List.takeWhile_cons, if_pos (by unfold notC; simpa using hne)]
    simp
  · rw [h2]
    simp
    intro e
    exact absurd e.symm hne
theorem UInv.found {R : List UInt8} {c : UInt8} {m : Nat} (h : UInv R c m) (hx : R[m]? = some c) : uptoW R c = R.take m ∧ c ∈ R ∧ (R.take m).length = m := by
  have hm := (List.getElem?_eq_some_iff.1 hx).1
  have e : R.drop m = c :: R.drop (m + 1) := by rw [List.drop_eq_getElem_cons hm, (List.getElem?_eq_some_iff.1 hx).2]
  obtain ⟨h1, h2⟩ := h
  rw [e] at h1 h2
  refine ⟨?_, h2.2 (by simp), by rw [List.length_take]; omega⟩
  rw [h1]
  unfold uptoW
  rw [List.takeWhile_cons, if_neg (by unfold notC; simp)]
  simp
theorem UInv.no {R : List UInt8} {c : UInt8} {m : Nat} (h : UInv R c m) (hm : R.length ≤ m) : uptoW R c = R ∧ ¬ c ∈ R := by
  obtain ⟨h1, h2⟩ := h
  rw [List.drop_eq_nil_of_le hm] at h1 h2
  refine ⟨?_, fun hc => by simpa using h2.1 hc⟩
  rw [h1, List.take_of_length_le hm]
  simp [uptoW]
theorem u8_int {a b : UInt8} (h : a ≠ b) : ((a.toNat : Int) == (b.toNat : Int)) = false ∧ (a.toNat == b.toNat) = false ∧ ¬ (a.toNat : Int) = (b.toNat : Int) := by
  have h1 : ¬ a.toNat = b.toNat := fun e => h (UInt8.toNat_inj.1 e)
  refine ⟨by simp; omega, by simpa using h1, by omega⟩
theorem dropW_suf (p : UInt8 → Bool) (r : List UInt8) : ∃ n, n ≤ r.length ∧ r.dropWhile p = r.drop n := by
  induction r with
  | nil => exact ⟨0, Nat.le_refl _, rfl⟩
  | cons c r ih =>
    rw [List.dropWhile_cons]
    split
    · obtain ⟨n, h1, h2⟩ := ih
      exact ⟨n + 1, by simp; omega, by rw [h2]; rfl⟩
    · exact ⟨0, Nat.zero_le _, rfl⟩
theorem wordT_suf (r : List UInt8) : ∃ n, n ≤ r.length ∧ wordT r = r.drop n := by
  induction r with
  | nil => exact ⟨0, Nat.le_refl _, rfl⟩
  | cons c r ih =>
    unfold wordT
    split
    · obtain ⟨n, h1, h2⟩ := dropW_suf solid r
      rw [h2, List.drop_drop]
      by_cases h : n + 1 ≤ r.length
      · exact ⟨n + 1 + 1, by simp; omega, by rw [List.drop_succ_cons]⟩
      · refine ⟨r.length + 1, by simp, ?_⟩
        rw [List.drop_eq_nil_of_le (by omega), List.drop_eq_nil_of_le (by simp)]
    · obtain ⟨n, h1, h2⟩ := ih
      exact ⟨n + 1, by simp; omega, by rw [h2]; rfl⟩
/-- A rest of a line. -/
def Rem (l R : List UInt8) : Prop := ∃ k, k ≤ l.length ∧ R = l.drop k
theorem Rem.all (l : List UInt8) : Rem l l := ⟨0, Nat.zero_le _, rfl⟩
theorem Rem.word {l R : List UInt8} (h : Rem l R) : Rem l (wordT R) := by
  obtain ⟨k, hk, rfl⟩ := h
  obtain ⟨n, h1, h2⟩ := wordT_suf (l.drop k)
  rw [List.length_drop] at h1
  exact ⟨k + n, by omega, by rw [h2, List.drop_drop]⟩
theorem Rem.le {l R : List UInt8} (h : Rem l R) : R.length ≤ l.length := by
  obtain ⟨k, hk, rfl⟩ := h
  rw [List.length_drop]
  omega
theorem Rem.drop {l R : List UInt8} (h : Rem l R) : l.drop (l.length - R.length) = R := by
  obtain ⟨k, hk, rfl⟩ := h
  rw [List.length_drop]
  congr 1
  omega
/-- A word at a place that a word left. -/
theorem word_at {l R : List UInt8} (h : Rem l R) : wordAt l ((l.length - R.length : Nat) : Int) = wordW R ∧ nextN l ((l.length - R.length : Nat) : Int) = l.length - (wordT R).length := by
  unfold wordAt nextN
  rw [startN_nat (by omega), h.drop]
  exact ⟨rfl, rfl⟩
theorem word_first (l : List UInt8) : wordAt l 0 = wordW l ∧ nextN l 0 = l.length - (wordT l).length := by
  have h : startN l 0 = 0 := startN_nat (k := 0) (Nat.zero_le _)
  unfold wordAt nextN
  rw [h]
  exact ⟨rfl, rfl⟩
def measW (n : Nat) (sw sat : Value) : Nat := match sw with | .string b => if b.size = 0 then 0 else n - (intOf sat).toNat + 1 | _ => 0
theorem measW_val (n : Nat) (u : List UInt8) (k : Nat) : measW n (.string (strB u)) (.int .i64 (k : Int)) = if u.length = 0 then 0 else n - k + 1 := by
  show (if (strB u).size = 0 then 0 else n - ((k : Int)).toNat + 1) = _
  rw [strB_size, Int.toNat_natCast]
theorem measW_step {l R : List UInt8} (h : Rem l R) (hw : wordW R ≠ []) : measW l.length (.string (strB (wordW (wordT R)))) (.int .i64 ((l.length - (wordT (wordT R)).length : Nat) : Int)) < measW l.length (.string (strB (wordW R))) (.int .i64 ((l.length - (wordT R).length : Nat) : Int)) := by
  rw [measW_val, measW_val]
  have h1 := h.word.le
  have hne : ¬ (wordW R).length = 0 := fun e => hw (List.eq_nil_of_length_eq_zero e)
  rw [if_neg hne]
  split
  · omega
  · rename_i h0
    have h2 := wordT_lt (r := wordT R) (fun e => h0 (by rw [e]; rfl))
    omega
theorem upC_low {c : UInt8} (h1 : 97 ≤ c.toNat) (h2 : c.toNat ≤ 122) : ((upC c).toNat : Int) = (c.toNat : Int) - 32 := by
  unfold upC
  rw [if_pos ⟨h1, h2⟩]
  have : (c - 32).toNat = c.toNat - 32 := by
    rw [UInt8.toNat_sub_of_le]
    · rfl
    · show (32 : UInt8).toNat ≤ c.toNat
      have : (32 : UInt8).toNat = 32 := rfl
      omega
  omega
theorem upC_same {c : UInt8} (h : ¬ (97 ≤ c.toNat ∧ c.toNat ≤ 122)) : upC c = c := by unfold upC; rw [if_neg h]
theorem upper_step {l : List UInt8} {k : Nat} {c : UInt8} (h : l[k]? = some c) : upperF (l.take (k + 1)) = upperF (l.take k) ++ [upC c] := by
  unfold upperF
  rw [List.take_add_one, h]
  simp
theorem upper_len (l : List UInt8) : (upperF l).length = l.length := by unfold upperF; simp
end Go.Proofs.Ytakeaocmiblbeaa
