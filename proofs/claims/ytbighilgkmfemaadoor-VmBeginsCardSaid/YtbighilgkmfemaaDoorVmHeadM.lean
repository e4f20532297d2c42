/- What stands ahead of Start, as the program lays it: plain facts. -/
import Derived.Test.YtbighilgkmfemaaDoorVmNewM
namespace Go.Proofs.YtbighilgkmfemaaDoor
open Go.RowKit
set_option linter.unusedVariables false
set_option linter.unusedSimpArgs false

/-- The byte at a place, when n code fields are laid, and the three cells ahead of them. -/
def byteH (n j : Nat) : UInt8 :=
  if j = 0 then 10 else if j = 16 then 96 else if j = 24 then 104
  else if 32 ≤ j ∧ j < 32 + 8 * n then (if j % 8 = 0 then UInt8.ofNat (numN ((j - 32) / 8) % 256) else if j % 8 = 1 then UInt8.ofNat (numN ((j - 32) / 8) / 256) else 0) else 0
def rowH (L n : Nat) : List UInt8 := (List.range L).map (byteH n)
theorem un_small {v : Nat} (h : v < 65536) : un (v : Int) = v := by
  unfold un
  simp [IntKind.wrap, IntKind.bits, IntKind.signed]
  omega
theorem cell_small {v : Nat} (h : v < 65536) : cellBytes (v : Int) = [UInt8.ofNat (v % 256), UInt8.ofNat (v / 256), 0, 0, 0, 0, 0, 0] := by
  unfold cellBytes
  rw [un_small h]
  unfold byteOf
  have e1 : v / 256 ^ 1 % 256 = v / 256 := by omega
  have e2 : v / 256 ^ 2 % 256 = 0 := by omega
  have e3 : v / 256 ^ 3 % 256 = 0 := by omega
  have e4 : v / 256 ^ 4 % 256 = 0 := by omega
  have e5 : v / 256 ^ 5 % 256 = 0 := by omega
  have e6 : v / 256 ^ 6 % 256 = 0 := by omega
  have e7 : v / 256 ^ 7 % 256 = 0 := by omega
  rw [e1, e2, e3, e4, e5, e6, e7, Nat.pow_zero, Nat.div_one]
  rfl
theorem splice_at {α : Type} (l b : List α) (q j : Nat) (h : q + b.length ≤ l.length) : (splice l q b)[j]? = if q ≤ j ∧ j < q + b.length then b[j - q]? else l[j]? := by
  unfold splice
  by_cases h1 : j < q
  · rw [if_neg (by omega), List.getElem?_append_left (by simp; omega), List.getElem?_take_of_lt h1]
  · rw [List.getElem?_append_right (by simp; omega)]
    have e : (l.take q).length = q := by simp; omega
    rw [e]
    by_cases h2 : j - q < b.length
    · rw [if_pos (by omega), List.getElem?_append_left h2]
    · rw [if_neg (by omega), List.getElem?_append_right (by omega), List.getElem?_drop]
      congr 1
      omega
theorem lay8 {L p v : Nat} (f : Nat → UInt8) (hp : p + 8 ≤ L) (hv : v < 65536) :
    layF ((List.range L).map f) (p : Int) (cellBytes (v : Int)) = (List.range L).map fun j => if j = p then UInt8.ofNat (v % 256) else if j = p + 1 then UInt8.ofNat (v / 256) else if p ≤ j ∧ j < p + 8 then 0 else f j := by
  apply List.ext_getElem?
  intro j
  unfold layF
  rw [Int.toNat_natCast, splice_at _ _ _ _ (by rw [cellBytes_len]; simpa using hp), cellBytes_len, cell_small hv]
  by_cases hj : j < L
  · simp only [List.getElem?_map, List.getElem?_range hj, Option.map_some]
    by_cases h1 : p ≤ j ∧ j < p + 8
    · rw [if_pos h1]
      obtain ⟨d, rfl⟩ : ∃ d, j = p + d := ⟨j - p, by omega⟩
      have hd : d < 8 := by omega
      rw [show p + d - p = d by omega]
      match d, hd with
      | 0, _ => simp
      | 1, _ => simp
      | 2, _ => simp
      | 3, _ => simp
      | 4, _ => simp
      | 5, _ => simp
      | 6, _ => simp
      | 7, _ => simp
    · rw [if_neg h1, if_neg (by omega), if_neg (by omega), if_neg h1]
  · rw [if_neg (by omega)]
    simp [hj]
theorem map_same {L : Nat} {f g : Nat → UInt8} (h : ∀ j, j < L → f j = g j) : (List.range L).map f = (List.range L).map g := List.map_congr_left fun j hj => h j (List.mem_range.1 hj)
theorem head_zero : ∀ (L : Nat), 32 ≤ L → layF (layF (layF (List.replicate L 0) ((0 : Nat) : Int) (cellBytes ((10 : Nat) : Int))) ((16 : Nat) : Int) (cellBytes ((96 : Nat) : Int))) ((24 : Nat) : Int) (cellBytes ((104 : Nat) : Int)) = rowH L 0 := by
  intro L hL
  have e : List.replicate L (0 : UInt8) = (List.range L).map fun _ => 0 := by apply List.ext_getElem <;> simp
  rw [e, lay8 _ (by omega) (by omega), lay8 _ (by omega) (by omega), lay8 _ (by omega) (by omega)]
  unfold rowH
  refine map_same fun j hj => ?_
  unfold byteH
  by_cases h0 : j = 0
  · subst h0; rfl
  · by_cases h16 : j = 16
    · subst h16; rfl
    · by_cases h24 : j = 24
      · subst h24; rfl
      · rw [if_neg h24]
        by_cases h25 : j = 25
        · subst h25; rfl
        · by_cases h17 : j = 17
          · subst h17; rfl
          · by_cases h1 : j = 1
            · subst h1; rfl
            · simp [h0, h16, h24, h25, h17, h1]
              intro _ _
              omega
theorem head_step {L i : Nat} (hi : i < 167) (hL : 1368 ≤ L) : layF (rowH L i) ((32 + 8 * i : Nat) : Int) (cellBytes ((numN i : Nat) : Int)) = rowH L (i + 1) := by
  have hn := num_le hi
  unfold rowH
  rw [lay8 _ (by omega) (by omega)]
  refine map_same fun j hj => ?_
  unfold byteH
  by_cases h0 : j = 32 + 8 * i
  · subst h0
    rw [if_pos rfl, if_neg (by omega), if_neg (by omega), if_neg (by omega), if_pos (by omega), if_pos (by omega)]
    congr 2
    congr 1
    omega
  · rw [if_neg h0]
    by_cases h1 : j = 32 + 8 * i + 1
    · subst h1
      rw [if_pos rfl, if_neg (by omega), if_neg (by omega), if_neg (by omega), if_pos (by omega), if_neg (by omega), if_pos (by omega)]
      congr 2
      congr 1
      omega
    · rw [if_neg h1]
      by_cases h2 : 32 + 8 * i ≤ j ∧ j < 32 + 8 * i + 8
      · rw [if_pos h2, if_neg (by omega), if_neg (by omega), if_neg (by omega), if_pos (by omega), if_neg (by omega), if_neg (by omega)]
      · rw [if_neg h2]
        by_cases a : j = 0
        · rw [if_pos a, if_pos a]
        · rw [if_neg a, if_neg a]
          by_cases b : j = 16
          · rw [if_pos b, if_pos b]
          · rw [if_neg b, if_neg b]
            by_cases c : j = 24
            · rw [if_pos c, if_pos c]
            · rw [if_neg c, if_neg c]
              by_cases d : 32 ≤ j ∧ j < 32 + 8 * i
              · rw [if_pos d, if_pos (show 32 ≤ j ∧ j < 32 + 8 * (i + 1) by omega)]
              · rw [if_neg d, if_neg (by omega)]
theorem head_last (L : Nat) : rowH L 167 = rowN L 167 := by
  unfold rowH rowN
  refine map_same fun j hj => ?_
  unfold byteH byteN
  simp
/-- The head laid into a row of noughts. -/
theorem head_whole {L : Nat} (hL : 1368 ≤ L) : layF (List.replicate L 0) 0 (rowN 1368 167) = rowN L 167 := by
  apply List.ext_getElem?
  intro j
  unfold layF
  rw [show (0 : Int).toNat = 0 from rfl, splice_at _ _ _ _ (by rw [rowN_len]; simpa using hL), rowN_len]
  by_cases hj : j < 1368
  · rw [if_pos (by omega), Nat.sub_zero, rowN_at hj, rowN_at (by omega)]
  · rw [if_neg (by omega)]
    by_cases h2 : j < L
    · rw [rowN_at h2, List.getElem?_replicate, if_pos h2]
      unfold byteN
      rw [if_neg (by omega), if_neg (by omega), if_neg (by omega), if_neg (by omega)]
    · rw [rowN_out h2, List.getElem?_replicate, if_neg h2]
theorem store_put {m : PM} {q : Nat} (n : Int) (hL : m.1.length = 1368) (h8 : q % 8 = 0) (hq : q + 8 ≤ 1368) : (storeF m (q : Int) n).1 = layF m.1 (q : Int) (cellBytes n) ∧ (storeF m (q : Int) n).2.length = m.2.length + 1 := by
  have h1 : okB 1368 (q : Int) 8 = true := by unfold okB; rw [decide_eq_true_eq]; omega
  have h2 : cellC 1368 (q : Int) = 0 := by unfold cellC; rw [if_pos h1, if_pos (by omega)]
  have h3 : okB m.1.length (q : Int) ((cellBytes n).length : Nat) = true := by rw [hL, cellBytes_len]; exact h1
  unfold storeF
  rw [hL, if_pos h2]
  unfold writeF
  rw [if_pos ⟨h3, by intro e; have := congrArg List.length e; rw [cellBytes_len] at this; cases this⟩]
  exact ⟨rfl, by simp⟩
end Go.Proofs.YtbighilgkmfemaaDoor
