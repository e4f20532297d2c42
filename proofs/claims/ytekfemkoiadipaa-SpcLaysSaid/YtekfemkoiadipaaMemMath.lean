/- Plain facts on memories: writes one by one, and what stands there then. -/
import Derived.Test.YtekfemkoiadipaaMemOpen
namespace Go.Proofs.Ytekfemkoiadipaa
open Go.RowKit
set_option linter.unusedVariables false
set_option linter.unusedSimpArgs false

theorem splice_get {α : Type} (l c : List α) (o i : Nat) (h : o + c.length ≤ l.length) : (splice l o c)[i]? = if o ≤ i ∧ i < o + c.length then c[i - o]? else l[i]? := by
  unfold splice
  by_cases h1 : i < o
  · rw [List.getElem?_append_left (by simp; omega), List.getElem?_take, if_pos h1, if_neg (by omega)]
  · rw [List.getElem?_append_right (by simp; omega)]
    have e : (l.take o).length = o := by simp; omega
    rw [e]
    by_cases h2 : i < o + c.length
    · rw [List.getElem?_append_left (by omega), if_pos (by omega)]
    · rw [List.getElem?_append_right (by omega), List.getElem?_drop, if_neg (by omega)]
      congr 1
      omega
theorem splice_len {α : Type} {l c : List α} {o : Nat} (h : o + c.length ≤ l.length) : (splice l o c).length = l.length := length_splice l o c h
theorem okB_nat {L : Nat} {p : Int} {b : List UInt8} (h : okB L p b.length = true) (hb : b ≠ []) : 0 ≤ p ∧ p.toNat + b.length ≤ L := by
  have := (okB_iff _ _ _).1 h
  have hl : 0 < b.length := List.length_pos_iff.2 hb
  omega
theorem writeF_len (m : PM) (p : Int) (b : List UInt8) : (writeF m p b).1.length = m.1.length := by
  unfold writeF
  split
  · rename_i h
    exact layF_len h.1
  · rfl
theorem writeF_pats (m : PM) (p : Int) (b : List UInt8) : (writeF m p b).2.length ≤ m.2.length + 1 := by
  unfold writeF
  split <;> simp
theorem writeF_row {m : PM} {p : Int} {b : List UInt8} (h : okB m.1.length p b.length = true) : (writeF m p b).1 = layF m.1 p b := by
  by_cases hb : b = []
  · subst hb; rw [writeF_nil, layF_none]
  · rw [writeF_yes h hb]
theorem text_write (m : PM) (p : Int) (b : List UInt8) (h : okB m.1.length p b.length = true) (hb : b ≠ []) : textF (writeF m p b) p b.length = b := by
  rw [textF_yes (by rw [writeF_len]; exact h), writeF_row h]
  have k := okB_nat h hb
  unfold layF splice
  have e : (m.1.take p.toNat).length = p.toNat := by simp; omega
  rw [List.drop_append_of_le_length (by omega), List.drop_of_length_le (by omega), List.nil_append, Int.toNat_natCast, List.take_left']
  rfl
theorem byte_write (m : PM) (p o : Int) (b : List UInt8) (h : okB m.1.length p b.length = true) (hb : b ≠ []) (ho : o < p ∨ p + (b.length : Int) ≤ o) : byteF (writeF m p b) o = byteF m o := by
  unfold byteF
  rw [writeF_len, writeF_row h]
  split
  · rename_i ok
    have k := okB_nat h hb
    have ho2 := (okB_iff _ _ _).1 ok
    unfold layF
    have e := splice_get m.1 b p.toNat o.toNat k.2
    rw [if_neg (by omega)] at e
    unfold List.getD
    rw [e]
  · rfl
theorem wrap_un {n : Int} (h0 : -9223372036854775808 ≤ n) (h1 : n ≤ 9223372036854775807) : wrap64 ((un n : Nat) : Int) = n := by
  have := un_mod n
  unfold wrap64
  omega
theorem bn_write (m : PM) (p : Int) (b : List UInt8) (i : Nat) (h : okB m.1.length p b.length = true) (hi : i < b.length) : bn (writeF m p b) (p.toNat + i) = (b[i]).toNat := by
  have hb : b ≠ [] := by intro e; rw [e] at hi; simp at hi
  have k := okB_nat h hb
  unfold bn
  rw [writeF_row h]
  unfold layF
  have e := splice_get m.1 b p.toNat (p.toNat + i) k.2
  rw [if_pos (by omega), show p.toNat + i - p.toNat = i by omega] at e
  unfold List.getD
  rw [e, List.getElem?_eq_getElem hi]
  rfl
theorem fetch_store (m : PM) (p n : Int) (hc : cellC m.1.length p = 0) (h0 : -9223372036854775808 ≤ n) (h1 : n ≤ 9223372036854775807) : fetchF (storeF m p n) p = n := by
  have hs : storeF m p n = writeF m p (cellBytes n) := by unfold storeF; rw [if_pos hc]
  have ok : okB m.1.length p (cellBytes n).length = true := store_ok hc
  rw [hs]
  unfold fetchF
  rw [writeF_len, if_pos hc]
  have b0 := bn_write m p (cellBytes n) 0 ok (by show 0 < 8; omega)
  have b1 := bn_write m p (cellBytes n) 1 ok (by show 1 < 8; omega)
  have b2 := bn_write m p (cellBytes n) 2 ok (by show 2 < 8; omega)
  have b3 := bn_write m p (cellBytes n) 3 ok (by show 3 < 8; omega)
  have b4 := bn_write m p (cellBytes n) 4 ok (by show 4 < 8; omega)
  have b5 := bn_write m p (cellBytes n) 5 ok (by show 5 < 8; omega)
  have b6 := bn_write m p (cellBytes n) 6 ok (by show 6 < 8; omega)
  have b7 := bn_write m p (cellBytes n) 7 ok (by show 7 < 8; omega)
  rw [Nat.add_zero] at b0
  rw [b0, b1, b2, b3, b4, b5, b6, b7]
  show wrap64 ((eight (UInt8.ofNat (byteOf (un n) 0)).toNat (UInt8.ofNat (byteOf (un n) 1)).toNat (UInt8.ofNat (byteOf (un n) 2)).toNat (UInt8.ofNat (byteOf (un n) 3)).toNat (UInt8.ofNat (byteOf (un n) 4)).toNat (UInt8.ofNat (byteOf (un n) 5)).toNat (UInt8.ofNat (byteOf (un n) 6)).toNat (UInt8.ofNat (byteOf (un n) 7)).toNat : Nat) : Int) = n
  rw [u8_byte, u8_byte, u8_byte, u8_byte, u8_byte, u8_byte, u8_byte, u8_byte, eight_bytes _ (un_lt n), wrap_un h0 h1]
end Go.Proofs.Ytekfemkoiadipaa
