/- Part 11. -/
import Derived.Test.YtlgnijhemfkflaaGreatDoorPaAJ
set_option linter.unusedVariables false
set_option linter.unusedSimpArgs false
set_option maxRecDepth 100000
set_option maxHeartbeats 4000000

namespace Go.Proofs.YtlgnijhemfkflaaGreatDoor
open Go.RowKit


def nmsL : List (List UInt8):=primL ++ specL
theorem all_len : nmsL.length = 167:=rfl
def nmN (i : Nat) : List UInt8:=nmsL.getD i []
theorem nm_at {i : Nat} (h : i < 167) : nmsL[i]? = some (nmN i):=by
  unfold nmN;rw [List.getD_eq_getElem?_getD,List.getElem?_eq_getElem (by rw [all_len]; exact h)];rfl
def numN (i : Nat) : Nat:=if i < 130 then i else 170 + i
theorem num_lo {i : Nat} (h : i < 130) : numN i = i:=by unfold numN; rw [if_pos h]
theorem num_hi {i : Nat} (h : ¬ i < 130) : numN i = 170 + i:=by unfold numN; rw [if_neg h]
theorem num_le {i : Nat} (h : i < 167) : numN i < 337:=by unfold numN; split <;> omega
def wordN (i : Nat) : Wr:=⟨nmN i,((32 + 8 * i : Nat) : Int),flagF (nmN i) i⟩
def newW (n : Nat) : List Wr:=(List.range n).map wordN
theorem newW_len (n : Nat) : (newW n).length = n:=by unfold newW; simp
theorem newW_succ (n : Nat) : newW (n + 1) = newW n ++ [wordN n]:=by unfold newW; rw [List.range_succ,List.map_append]; rfl
def byteN (n j : Nat) : UInt8 :=
  if j = 0 then 10 else if j = 16 then (if 8 < n then 96 else 0) else if j = 24 then (if 9 < n then 104 else 0)
  else if 32 ≤ j ∧ j < 32 + 8 * n then (if j % 8 = 0 then UInt8.ofNat (numN ((j - 32) / 8) % 256) else if j % 8 = 1 then UInt8.ofNat (numN ((j - 32) / 8) / 256) else 0) else 0
def rowN (L n : Nat) : List UInt8:=(List.range L).map (byteN n)
theorem rowN_len (L n : Nat) : (rowN L n).length = L:=by unfold rowN; simp
theorem rowN_at {L n j : Nat} (h : j < L) : (rowN L n)[j]? = some (byteN n j):=by unfold rowN; simp [h]
theorem rowN_out {L n j : Nat} (h : ¬ j < L) : (rowN L n)[j]? = none:=by unfold rowN; simp [h]
theorem row_zero {L : Nat} (h : 0 < L) : (List.replicate L (0 : UInt8)).set 0 10 = rowN L 0:=by
  apply List.ext_getElem?
  intro j
  by_cases hj : j < L
  · rw [rowN_at hj,List.getElem?_set]
    by_cases h0 : j = 0
    · subst h0; simp [h,byteN]
    · rw [if_neg (by omega),List.getElem?_replicate,if_pos hj]
      unfold byteN;rw [if_neg h0];simp;intro h1 h2;omega
  · rw [rowN_out hj,List.getElem?_eq_none (by simp; omega)]
theorem byte_lo {i : Nat} : byteN (i + 1) (32 + 8 * i) = UInt8.ofNat (numN i % 256):=by
  unfold byteN;rw [if_neg (by omega),if_neg (by omega),if_neg (by omega),if_pos (by omega),if_pos (by omega)]
  congr 2
  congr 1
  omega
theorem byte_hi {i : Nat} : byteN (i + 1) (32 + 8 * i + 1) = UInt8.ofNat (numN i / 256):=by
  unfold byteN;rw [if_neg (by omega),if_neg (by omega),if_neg (by omega),if_pos (by omega),if_neg (by omega),if_pos (by omega)]
  congr 2
  congr 1
  omega
theorem byte_on {i j : Nat} (h0 : j ≠ 32 + 8 * i) (h1 : j ≠ 32 + 8 * i + 1) (h8 : ¬ (i = 8 ∧ j = 16)) (h9 : ¬ (i = 9 ∧ j = 24)) : byteN (i + 1) j = byteN i j:=by
  unfold byteN
  by_cases a : j = 0
  · rw [if_pos a,if_pos a]
  · rw [if_neg a,if_neg a]
    by_cases b : j = 16
    · rw [if_pos b,if_pos b]
      by_cases c : 8 < i
      · rw [if_pos (by omega),if_pos c]
      · rw [if_neg (by omega),if_neg c]
    · rw [if_neg b,if_neg b]
      by_cases b2 : j = 24
      · rw [if_pos b2,if_pos b2]
        by_cases c : 9 < i
        · rw [if_pos (by omega),if_pos c]
        · rw [if_neg (by omega),if_neg c]
      · rw [if_neg b2,if_neg b2]
        by_cases c : 32 ≤ j ∧ j < 32 + 8 * i
        · rw [if_pos (by omega),if_pos c]
        · rw [if_neg c]
          by_cases d : 32 ≤ j ∧ j < 32 + 8 * (i + 1)
          · rw [if_pos d,if_neg (by omega),if_neg (by omega)]
          · rw [if_neg d]
theorem row_step {L i : Nat} (hi : i < 167) (hL : 1400 ≤ L) (h8 : i ≠ 8) (h9 : i ≠ 9) : ((rowN L i).set (32 + 8 * i) (UInt8.ofNat (numN i % 256))).set (32 + 8 * i + 1) (UInt8.ofNat (numN i / 256)) = rowN L (i + 1):=by
  apply List.ext_getElem?
  intro j
  by_cases hj : j < L
  · rw [rowN_at hj,List.getElem?_set,List.getElem?_set,List.length_set,rowN_len]
    by_cases e1 : 32 + 8 * i + 1 = j
    · rw [if_pos e1,if_pos (by omega),← e1,byte_hi]
    · rw [if_neg e1]
      by_cases e0 : 32 + 8 * i = j
      · rw [if_pos e0,if_pos (by omega),← e0,byte_lo]
      · rw [if_neg e0,rowN_at hj,byte_on (by omega) (by omega) (by omega) (by omega)]
  · rw [rowN_out hj,List.getElem?_eq_none (by simp [rowN_len]; omega)]
theorem row_step8 {L : Nat} (hL : 1400 ≤ L) : ((((rowN L 8).set 96 8).set 97 0).set 16 96).set 17 0 = rowN L 9:=by
  apply List.ext_getElem?
  intro j
  by_cases hj : j < L
  · rw [rowN_at hj]
    simp only [List.getElem?_set,List.length_set,rowN_len]
    by_cases e1 : 17 = j
    · rw [if_pos e1,if_pos (by omega),← e1]; rfl
    · rw [if_neg e1]
      by_cases e2 : 16 = j
      · rw [if_pos e2,if_pos (by omega),← e2]; rfl
      · rw [if_neg e2]
        by_cases e3 : 97 = j
        · rw [if_pos e3,if_pos (by omega),← e3]; rfl
        · rw [if_neg e3]
          by_cases e4 : 96 = j
          · rw [if_pos e4,if_pos (by omega),← e4]; rfl
          · rw [if_neg e4,rowN_at hj,byte_on (i:=8) (by omega) (by omega) (by omega) (by omega)]
  · rw [rowN_out hj,List.getElem?_eq_none (by simp [rowN_len]; omega)]
theorem row_step9 {L : Nat} (hL : 1400 ≤ L) : ((((rowN L 9).set 104 9).set 105 0).set 24 104).set 25 0 = rowN L 10:=by
  apply List.ext_getElem?
  intro j
  by_cases hj : j < L
  · rw [rowN_at hj]
    simp only [List.getElem?_set,List.length_set,rowN_len]
    by_cases e1 : 25 = j
    · rw [if_pos e1,if_pos (by omega),← e1]; rfl
    · rw [if_neg e1]
      by_cases e2 : 24 = j
      · rw [if_pos e2,if_pos (by omega),← e2]; rfl
      · rw [if_neg e2]
        by_cases e3 : 105 = j
        · rw [if_pos e3,if_pos (by omega),← e3]; rfl
        · rw [if_neg e3]
          by_cases e4 : 104 = j
          · rw [if_pos e4,if_pos (by omega),← e4]; rfl
          · rw [if_neg e4,rowN_at hj,byte_on (i:=9) (by omega) (by omega) (by omega) (by omega)]
  · rw [rowN_out hj,List.getElem?_eq_none (by simp [rowN_len]; omega)]
def haltS : List UInt8:=[40,104,97,108,116,41]
def caughtS : List UInt8:=[40,99,97,117,103,104,116,41]
theorem nm_halt : ∀ i,i < 167 → i ≠ 8 → nmN i ≠ haltS:=by decide
theorem nm_caught : ∀ i,i < 167 → i ≠ 9 → nmN i ≠ caughtS:=by decide
def Bw (w : World) (g : Nat) (l : List UInt8) : Prop:=w.heap[g]? = some (.cells (u8s l).toArray 5 (0,0))
theorem Bw.lt {w : World} {g : Nat} {l : List UInt8} (h : Bw w g l) : g < w.heap.size:=(Array.getElem?_eq_some_iff.1 h).1
theorem Bw.use {w : World} {g : Nat} {l : List UInt8} (h : Bw w g l) {k : Nat} (hk : k < l.length) : (∃ c : UInt8,w.cell? ⟨g,k,none⟩ = some (.int .u8 (c.toNat : Int))) ∧ w.frozen? ⟨g,k,none⟩ = false:=by
  unfold Bw at h;refine ⟨⟨l[k],?_⟩,by simp [World.frozen?,h]⟩;simp [World.cell?,h,u8s,hk]
theorem Bw.keep {w w' : World} {g : Nat} {l : List UInt8} (h : Bw w g l) (b : Below w.heap.size w w') : Bw w' g l:=(b.block g h.lt).trans h
theorem Bw.set {w : World} {g : Nat} {l : List UInt8} (h : Bw w g l) (k : Nat) (c : UInt8) : Bw (w.setCell ⟨g,k,none⟩ (.int .u8 (c.toNat : Int))) g (l.set k c):=by
  unfold Bw at h ⊢;have h1:=Go.Joins.block_setCell (i:=k) h (.int .u8 (c.toNat : Int));simpa [u8s,List.map_set] using h1
theorem Bw.byt {w : World} {g : Nat} {l : List UInt8} (h : Bw w g l) (hl : l.length ≤ 65536) : Byt w (.slice (some ⟨g,0,none⟩) l.length l.length) l:=byt_block h hl
end Go.Proofs.YtlgnijhemfkflaaGreatDoor
