/- Contracts of num's unmarked, quoted, of strings.CutPrefix by a minus, and of Parse. -/
import Derived.Test.YtlkjopbgobkgmaaNumCodeB
namespace Go.Proofs.Ytlkjopbgobkgmaa
open Go.RowKit
set_option linter.unusedVariables false
set_option linter.unusedSimpArgs false

theorem strB_tail (c : UInt8) (r : List UInt8) : (strB (c :: r)).extract 1 (strB (c :: r)).size = strB r := by
  apply ByteArray.ext
  rw [ByteArray.data_extract]
  simp [strB, strB_size, ByteArray.size]
theorem strB_first (c : UInt8) (r : List UInt8) : (strB (c :: r)).extract 0 1 = strB [c] := by
  apply ByteArray.ext
  rw [ByteArray.data_extract]
  simp [strB]

set_option maxRecDepth 100000 in
set_option maxHeartbeats 4000000 in
theorem unmarked_any (l : List UInt8) (b : Int) (w : World) (hl : l.length ≤ 1000000) :
    Calls Try.prog 23 #[.string (strB l), .int .i64 b] w fun e w' => e = .returned (.tuple #[.string (strB (markF l b).2), .int .i64 (markF l b).1]) ∧ w = w' := by
  cases l with
  | nil =>
    have hs0 : (strB []).toList.isEmpty = true := by rw [str_list]; rfl
    go_enter Try.func23, Try.ntmps23
    go_wp2
    go_ret2
    exact ⟨rfl, rfl⟩
  | cons c r =>
    have hs0 : (strB (c :: r)).toList.isEmpty = false := by rw [str_list]; rfl
    have i0 := ix_0 (l := c :: r) (c := c) rfl
    have hx := strB_tail c r
    have hz1 : ¬ (((strB (c :: r)).size : Int) < 1) := by rw [strB_size]; simp; omega
    by_cases h35 : c = 35
    · have e35 : (c.toNat : Int) = 35 := by rw [h35]; rfl
      rw [e35] at i0
      have HM : Hid (markF (c :: r) b = (10, r)) := by show _ = _; unfold markF; simp [h35]
      rw [HM.out]
      clear h35 e35 HM 
      go_enter Try.func23, Try.ntmps23
      go_wp2
      go_ret2
      exact ⟨rfl, rfl⟩
    · have e35 : ((c.toNat : Int) == 35) = false := u8_ne (k := 35) (by omega) h35
      by_cases h36 : c = 36
      · have e36 : (c.toNat : Int) = 36 := by rw [h36]; rfl
        rw [e36] at i0
        have HM : Hid (markF (c :: r) b = (16, r)) := by show _ = _; unfold markF; simp [h36]
        rw [HM.out]
        clear h36 e36 HM h35 e35
        go_enter Try.func23, Try.ntmps23
        go_wp2
        go_ret2
        exact ⟨rfl, rfl⟩
      · have e36 : ((c.toNat : Int) == 36) = false := u8_ne (k := 36) (by omega) h36
        by_cases h37 : c = 37
        · have e37 : (c.toNat : Int) = 37 := by rw [h37]; rfl
          rw [e37] at i0
          have HM : Hid (markF (c :: r) b = (2, r)) := by show _ = _; unfold markF; simp [h37]
          rw [HM.out]
          clear h37 e37 HM h35 e35 h36 e36
          go_enter Try.func23, Try.ntmps23
          go_wp2
          go_ret2
          exact ⟨rfl, rfl⟩
        · have e37 : ((c.toNat : Int) == 37) = false := u8_ne (k := 37) (by omega) h37
          have HM : Hid (markF (c :: r) b = (b, c :: r)) := by show _ = _; unfold markF; simp [h35, h36, h37]
          rw [HM.out]
          clear h35 h36 h37 HM hx
          go_enter Try.func23, Try.ntmps23
          go_wp2
          go_ret2
          exact ⟨rfl, rfl⟩

set_option maxRecDepth 100000 in
set_option maxHeartbeats 4000000 in
theorem hasprefix_any (l : List UInt8) (w : World) (hl : l.length ≤ 1000000) :
    Calls Try.prog 30 #[.string (strB l), .string ⟨#[45]⟩] w fun e w' => e = .returned (.bool (minF l).1) ∧ w = w' := by
  have h45 : (⟨#[45]⟩ : ByteArray).toList = [45] := by rw [ByteArray.toList_eq]
  cases l with
  | nil =>
    have hz : (strB []).size = 0 := rfl
    go_enter Try.func30, Try.ntmps30
    go_wp2
    go_ret
    exact ⟨rfl, rfl⟩
  | cons c r =>
    have hz : (strB (c :: r)).size = r.length + 1 := rfl
    have hx := strB_first c r
    have hl1 : (strB [c]).toList = [c] := str_list [c]
    have HL := Lib.hid hl
    by_cases h : c = 45
    · have HM : Hid ((minF (c :: r)).1 = true) := by show _ = _; unfold minF; simp [h]
      have hc : ([c] == [(45 : UInt8)]) = true := by simp [h]
      rw [HM.out]
      clear HM h hl
      go_enter Try.func30, Try.ntmps30
      go_wp2
      go_ret
      exact ⟨rfl, rfl⟩
    · have HM : Hid ((minF (c :: r)).1 = false) := by show _ = _; unfold minF; simp [h]
      have hc : ([c] == [(45 : UInt8)]) = false := by simp [h]
      rw [HM.out]
      clear HM h hl
      go_enter Try.func30, Try.ntmps30
      go_wp2
      go_ret
      exact ⟨rfl, rfl⟩

set_option maxRecDepth 100000 in
set_option maxHeartbeats 4000000 in
theorem cutprefix_any (l : List UInt8) (w : World) (hl : l.length ≤ 1000000) :
    Calls Try.prog 28 #[.string (strB l), .string ⟨#[45]⟩] w fun e w' => e = .returned (.tuple #[.string (strB (minF l).2), .bool (minF l).1]) ∧ w = w' := by
  cases hm : (minF l).1 with
  | false =>
    have H2 : Hid ((minF l).2 = l) := by
      have := min_drop l
      rw [hm] at this
      show _ = _
      simpa using this
    rw [H2.out]
    go_enter Try.func28, Try.ntmps28
    go_wp2_with fail
    refine (hasprefix_any l _ hl).mono ?_
    rw [hm]
    rintro e w1 ⟨rfl, rfl⟩
    clear hl hm
    go_wp2
    go_ret2
    exact ⟨rfl, rfl⟩
  | true =>
    obtain ⟨r, rfl⟩ : ∃ r, l = 45 :: r := by
      cases l with
      | nil => cases hm
      | cons c r =>
        refine ⟨r, ?_⟩
        by_cases h : c = 45
        · rw [h]
        · simp [minF, h] at hm
    have H2 : Hid ((minF (45 :: r)).2 = r) := by show _ = _; simp [minF]
    have hx := strB_tail 45 r
    have hz : (strB (45 :: r)).size = r.length + 1 := rfl
    have hzz : ((strB (45 :: r)).size : Int) = (r.length : Int) + 1 := by rw [hz]; rfl
    have HZ := Lib.hid hz
    rw [H2.out]
    go_enter Try.func28, Try.ntmps28
    go_wp2_with fail
    refine (hasprefix_any (45 :: r) _ hl).mono ?_
    rw [hm]
    rintro e w1 ⟨rfl, rfl⟩
    have h1 : 1 ≤ (strB (45 :: r)).size := by rw [HZ.out]; omega
    clear hl hm hz hzz
    go_wp2
    go_ret2
    exact ⟨rfl, rfl⟩

set_option maxRecDepth 100000 in
set_option maxHeartbeats 4000000 in
theorem scut_any (l : List UInt8) (w : World) (hl : l.length ≤ 1000000) :
    Calls Try.prog 24 #[.string (strB l), .string ⟨#[45]⟩] w fun e w' => e = .returned (.tuple #[.string (strB (minF l).2), .bool (minF l).1]) ∧ w = w' := by
  go_enter Try.func24, Try.ntmps24
  go_wp2_with fail
  refine (cutprefix_any l _ hl).mono ?_
  rintro e w1 ⟨rfl, rfl⟩
  go_wp2
  go_ret2
  exact ⟨rfl, rfl⟩

def quoN (l : List UInt8) : Int := (quoteF l).getD 0
def quoB (l : List UInt8) : Bool := (quoteF l).isSome
set_option maxRecDepth 100000 in
set_option maxHeartbeats 4000000 in
theorem quoted_any (l : List UInt8) (w : World) (hl : l.length ≤ 1000000) :
    Calls Try.prog 22 #[.string (strB l)] w fun e w' => e = .returned (.tuple #[.int .i64 (quoN l), .bool (quoB l)]) ∧ w = w' := by
  have hsz : (strB l).size = l.length := rfl
  obtain ⟨k, hk⟩ : ∃ k, l.length = k := ⟨_, rfl⟩
  rw [hk] at hsz hl
  have HK := Lib.hid hk
  clear hk
  by_cases h3 : k = 3
  · obtain ⟨a, c, d, rfl⟩ : ∃ a c d, l = [a, c, d] := by
      have := HK.out
      rw [h3] at this
      match l, this with
      | [a, c, d], _ => exact ⟨a, c, d, rfl⟩
    subst h3
    have i0 := ix_0 (l := [a, c, d]) (c := a) rfl
    have i1 := ix_1 (l := [a, c, d]) (c := c) rfl
    have i2 := ix_2 (l := [a, c, d]) (c := d) rfl
    have hc255 : (c.toNat : Int) ≤ 255 := by have := c.toNat_lt; omega
    have HQ0 := Lib.hid (show quoteF [a, c, d] = if a = 39 ∧ d = 39 ∧ 33 ≤ c.toNat ∧ c.toNat ≤ 126 then some (c.toNat : Int) else none from rfl)
    by_cases ha : a = 39
    · have ha' : (a.toNat : Int) = 39 := by rw [ha]; rfl
      rw [ha'] at i0
      by_cases hd : d = 39
      · have hd' : (d.toNat : Int) = 39 := by rw [hd]; rfl
        rw [hd'] at i2
        by_cases hc : 33 ≤ c.toNat
        · have hc' : decide ((c.toNat : Int) < 33) = false := by simp; omega
          have hcn : decide (c.toNat < 33) = false := by simp; omega
          by_cases hc2 : c.toNat ≤ 126
          · have hc2' : decide ((126 : Int) < (c.toNat : Int)) = false := by simp; omega
            have hc2n : decide (126 < c.toNat) = false := by simp; omega
            have HQ : Hid (quoN [a, c, d] = (c.toNat : Int) ∧ quoB [a, c, d] = true) := by show _ ∧ _; unfold quoN quoB; rw [HQ0.out, if_pos ⟨ha, hd, hc, hc2⟩]; exact ⟨rfl, rfl⟩
            clear ha hd ha' hd' HQ0 hc hc2
            go_enter Try.func22, Try.ntmps22
            go_wp2
            go_ret2
            exact ⟨ret_pair HQ.out.1.symm HQ.out.2.symm, rfl⟩
          · have hc2' : (126 : Int) < (c.toNat : Int) := by omega
            have HQ : Hid (quoN [a, c, d] = 0 ∧ quoB [a, c, d] = false) := by show _ ∧ _; unfold quoN quoB; rw [HQ0.out, if_neg (fun h => hc2 h.2.2.2)]; exact ⟨rfl, rfl⟩
            clear ha hd ha' hd' HQ0 hc hc2
            go_enter Try.func22, Try.ntmps22
            go_wp2
            go_ret2
            exact ⟨ret_pair HQ.out.1.symm HQ.out.2.symm, rfl⟩
        · have hc' : (c.toNat : Int) < 33 := by omega
          have HQ : Hid (quoN [a, c, d] = 0 ∧ quoB [a, c, d] = false) := by show _ ∧ _; unfold quoN quoB; rw [HQ0.out, if_neg (fun h => hc h.2.2.1)]; exact ⟨rfl, rfl⟩
          clear ha hd ha' hd' HQ0 hc
          go_enter Try.func22, Try.ntmps22
          go_wp2
          go_ret2
          exact ⟨ret_pair HQ.out.1.symm HQ.out.2.symm, rfl⟩
      · have hd' : ((d.toNat : Int) == 39) = false := u8_ne (k := 39) (by omega) hd
        have hd2 : ((d.toNat : Int) != 39) = true := by rw [bne, hd']; rfl
        have hd3 : ¬ (d.toNat : Int) = 39 := by simpa using hd'
        have hd4 : ¬ d.toNat = 39 := by omega
        have HQ : Hid (quoN [a, c, d] = 0 ∧ quoB [a, c, d] = false) := by show _ ∧ _; unfold quoN quoB; rw [HQ0.out, if_neg (fun h => hd h.2.1)]; exact ⟨rfl, rfl⟩
        clear ha ha' hd HQ0
        go_enter Try.func22, Try.ntmps22
        go_wp2
        go_ret2
        exact ⟨ret_pair HQ.out.1.symm HQ.out.2.symm, rfl⟩
    · have ha' : ((a.toNat : Int) == 39) = false := u8_ne (k := 39) (by omega) ha
      have ha2 : ((a.toNat : Int) != 39) = true := by rw [bne, ha']; rfl
      have ha3 : ¬ (a.toNat : Int) = 39 := by simpa using ha'
      have ha4 : ¬ a.toNat = 39 := by omega
      have HQ : Hid (quoN [a, c, d] = 0 ∧ quoB [a, c, d] = false) := by show _ ∧ _; unfold quoN quoB; rw [HQ0.out, if_neg (fun h => ha h.1)]; exact ⟨rfl, rfl⟩
      clear ha HQ0
      go_enter Try.func22, Try.ntmps22
      go_wp2
      go_ret2
      exact ⟨ret_pair HQ.out.1.symm HQ.out.2.symm, rfl⟩
  · have h3' : ((k : Int) == 3) = false := by simp; omega
    have h32 : ((k : Int) != 3) = true := by rw [bne, h3']; rfl
    have h33 : ¬ (k : Int) = 3 := by omega
    have HQ : Hid (quoN l = 0 ∧ quoB l = false) := by
      have e := HK.out
      have hq : quoteF l = none := by
        unfold quoteF
        split
        · simp at e; omega
        · rfl
      show _ ∧ _
      unfold quoN quoB
      rw [hq]
      exact ⟨rfl, rfl⟩
    clear h3
    go_enter Try.func22, Try.ntmps22
    go_wp2
    go_ret2
    exact ⟨ret_pair HQ.out.1.symm HQ.out.2.symm, rfl⟩
end Go.Proofs.Ytlkjopbgobkgmaa
