/- Contracts of num's gathered, unmarked, quoted. -/
import Derived.Test.YtlkjopbgobkgmaaNumCodeA
import Derived.Test.YtlkjopbgobkgmaaBytApp
import Derived.Laws.RangeAny
import Derived.Lib.OthersKept
import Derived.WalkSpells
namespace Go.Proofs.Ytlkjopbgobkgmaa
open Go.RowKit
set_option linter.unusedVariables false
set_option linter.unusedSimpArgs false

def gN (l : List UInt8) (b : Int) : Int := (readF b 0 l).getD 0
def gB (l : List UInt8) (b : Int) : Bool := (readF b 0 l).isSome && !decide (l = [])
theorem str_list (l : List UInt8) : (strB l).toList = l := by rw [ByteArray.toList_eq]; rfl
theorem high_no {c : Nat} {b : Int} (h : 128 ≤ c) : isW c b = false := by
  apply (isW_no _ _).2
  have : wN c = 99 := by unfold wN; rw [if_neg (by omega), if_neg (by omega), if_neg (by omega)]
  omega
set_option maxRecDepth 100000 in
set_option maxHeartbeats 4000000 in
theorem gathered_any (l : List UInt8) (b : Int) (w : World) (hl : l.length ≤ 1000000) :
    Calls Try.prog 25 #[.string (strB l), .int .i64 b] w fun e w' => e = .returned (.tuple #[.int .i64 (gN l b), .bool (gB l b)]) ∧ Below w.heap.size w w' := by
  have hsz : (strB l).size = l.length := rfl
  obtain ⟨k, hk⟩ : ∃ k, l.length = k := ⟨_, rfl⟩
  rw [hk] at hsz hl
  have HK := Lib.hid hk
  have HS := Lib.hid hsz
  clear hk hsz
  go_enter Try.func25, Try.ntmps25
  go_wp2_with fail
  go_loopw [6] (fun s4 wr => ∃ (j : Nat) (n : Int), s4 = .int .i64 n ∧ j ≤ k ∧ Hid (readF b 0 l = readF b n (l.drop j)) ∧ Hid (wr.heap[w.heap.size]? = some (.stringIter (strB l) j)) ∧ Hid (Below w.heap.size w wr)) (fun _ wr => k - wr.iterPos w.heap.size)
  case atStart => exact ⟨0, 0, rfl, by omega, Lib.hid rfl, Lib.hid (World.iter_heap w (strB l) 0), Lib.hid (al_one _ _)⟩
  case round =>
    obtain ⟨j, n, rfl, hj, HR, HI, HD⟩ := hrel
    have hq := HI.out
    have hsz : w.heap.size < wr.heap.size := (Array.getElem?_eq_some_iff.1 hq).1
    by_cases hlt : j < k
    · have hlt2 : j < l.length := by rw [HK.out]; exact hlt
      have hb : j < (strB l).size := hlt2
      obtain ⟨c, hc⟩ : ∃ c, l[j]? = some c := ⟨_, List.getElem?_eq_getElem hlt2⟩
      have HDC : Hid (l.drop j = c :: l.drop (j + 1)) := by
        have := drop_cons hlt2
        rw [List.getElem?_eq_getElem hlt2] at hc
        injection hc with hc
        rw [hc] at this
        exact this
      have hbc : (strB l)[j]'hb = c := by
        rw [List.getElem?_eq_getElem hlt2] at hc
        injection hc
      by_cases ha : c.toNat < 128
      · have hnx : ∀ ty, (Instr.next (.pointer (some ⟨w.heap.size, 0, none⟩)) true ty).run Try.prog wr = .ok (.tuple #[.bool true, .int .i64 j, .int .i32 (c.toNat : Int)]) (wr.iterAt w.heap.size (strB l) (j + 1)) := fun ty => by
          rw [Lib.run_next_ascii_at wr w.heap.size (strB l) j ty hq hb (by rw [hbc]; exact ha), hbc]
        have hs1 : (wr.iterAt w.heap.size (strB l) (j + 1)).heap.size = wr.heap.size := Lib.iterAt_size _ _ _ _
        have hD1 : Below w.heap.size w (wr.iterAt w.heap.size (strB l) (j + 1)) := Lib.below_iterAt HD.out (Nat.le_refl _) (strB l) (j + 1)
        have hI1 := Lib.iterAt_heap wr w.heap.size (strB l) j (j + 1) hq
        obtain ⟨W, hW⟩ : ∃ W, wr.iterAt w.heap.size (strB l) (j + 1) = W := ⟨_, rfl⟩
        rw [hW] at hnx hs1 hD1 hI1
        have HI1 := Lib.hid hI1
        have HD1 := Lib.hid hD1
        have CW := Lib.hid (nworth_any c.toNat b W (by omega))
        clear hs1 hD1 hI1 hW hc hbc ha hb
        cases hw : isW c.toNat b with
        | true =>
          have HWD : Hid (worthF c.toNat b = (wN c.toNat : Int)) := by show _ = _; unfold worthF; rw [if_pos hw]
          have HR2 : Hid (readF b 0 l = readF b (wrap64 (wrap64 (n * b) + (wN c.toNat : Int))) (l.drop (j + 1))) := by
            rw [HR.out, HDC.out]
            show (if _ then _ else _) = _
            rw [if_pos hw]
          obtain ⟨d, hd⟩ : ∃ d : Int, ((wN c.toNat : Nat) : Int) = d := ⟨_, rfl⟩
          rw [hd] at HWD HR2
          clear HR HDC hd
          go_wp2_with fail
          refine (CW.out).mono ?_
          rw [HWD.out, hw]
          rintro e w1 ⟨rfl, rfl⟩
          clear CW hw
          go_wp2
          go_roundw
          case rel => exact ⟨j + 1, _, rfl, by omega, HR2.out, HI1.out, HD1.out⟩
          case measure => simp only [World.iterPos, HI1.out, HI.out]; omega
        | false =>
          have HWD : Hid (worthF c.toNat b = 0) := by show _ = _; unfold worthF; rw [if_neg (by simp [hw])]
          have e : readF b 0 l = none := by
            rw [HR.out, HDC.out]
            show (if _ then _ else _) = _
            rw [if_neg (by simp [hw])]
          have HP2 : Hid (gN l b = 0 ∧ gB l b = false) := by
            show _ ∧ _
            unfold gN gB
            rw [e]
            exact ⟨rfl, rfl⟩
          clear HR HDC e
          go_wp2_with fail
          refine (CW.out).mono ?_
          rw [HWD.out, hw]
          rintro e w1 ⟨rfl, rfl⟩
          clear CW hw
          go_wp2
          go_ret2
          exact ⟨ret_pair HP2.out.1.symm HP2.out.2.symm, HD1.out⟩
      · obtain ⟨hu, hv⟩ := decode_high (strB l) j hb (by rw [hbc]; omega)
        have hle := decode_le (strB l) j
        have hnx : ∀ ty, (Instr.next (.pointer (some ⟨w.heap.size, 0, none⟩)) true ty).run Try.prog wr = .ok (.tuple #[.bool true, .int .i64 j, .int .i32 ((Utf8.decode (strB l) j).1 : Int)]) (wr.iterAt w.heap.size (strB l) (j + (Utf8.decode (strB l) j).2)) := fun ty => Lib.run_next_any_at wr w.heap.size (strB l) j ty hq hb
        obtain ⟨u, hue⟩ : ∃ u, (Utf8.decode (strB l) j).1 = u := ⟨_, rfl⟩
        obtain ⟨v, hve⟩ : ∃ v, (Utf8.decode (strB l) j).2 = v := ⟨_, rfl⟩
        rw [hue, hve] at hnx
        rw [hue] at hu hle
        have hD1 : Below w.heap.size w (wr.iterAt w.heap.size (strB l) (j + v)) := Lib.below_iterAt HD.out (Nat.le_refl _) (strB l) (j + v)
        obtain ⟨W, hW⟩ : ∃ W, wr.iterAt w.heap.size (strB l) (j + v) = W := ⟨_, rfl⟩
        rw [hW] at hnx hD1
        have HD1 := Lib.hid hD1
        have CW := Lib.hid (nworth_any u b W hle)
        have hw : isW c.toNat b = false := high_no (by omega)
        have hw2 : isW u b = false := high_no hu
        have HWD : Hid (worthF u b = 0) := by show _ = _; unfold worthF; rw [if_neg (by simp [hw2])]
        have e : readF b 0 l = none := by
          rw [HR.out, HDC.out]
          show (if _ then _ else _) = _
          rw [if_neg (by simp [hw])]
        have HP2 : Hid (gN l b = 0 ∧ gB l b = false) := by
          show _ ∧ _
          unfold gN gB
          rw [e]
          exact ⟨rfl, rfl⟩
        clear hD1 hW hc hbc ha hb hu hle hue hve HR HDC e hw
        go_wp2_with fail
        refine (CW.out).mono ?_
        rw [HWD.out, hw2]
        rintro e w1 ⟨rfl, rfl⟩
        clear CW hw2
        go_wp2
        go_ret2
        exact ⟨ret_pair HP2.out.1.symm HP2.out.2.symm, HD1.out⟩
    · have hje : j = k := by omega
      have hnx : ∀ ty, (Instr.next (.pointer (some ⟨w.heap.size, 0, none⟩)) true ty).run Try.prog wr = .ok (.tuple #[.bool false]) wr := fun ty => Lib.run_next_end_at wr w.heap.size (strB l) j ty hq (by rw [HS.out]; omega)
      have hr : readF b 0 l = some n := by
        rw [HR.out, List.drop_eq_nil_of_le (by rw [HK.out]; omega)]
        rfl
      have H1 : Hid (gN l b = n) := by show _ = _; unfold gN; rw [hr]; rfl
      clear hje hq hlt HR
      by_cases hnil : l = []
      · have H2 : Hid (gB l b = false) := by show _ = _; unfold gB; rw [hnil]; simp
        have hs0 : (strB l).toList.isEmpty = true := by rw [str_list, hnil]; rfl
        clear hr hnil
        go_wp2_with fail
        go_ret2
        exact ⟨ret_pair H1.out.symm H2.out.symm, HD.out⟩
      · have H2 : Hid (gB l b = true) := by show _ = _; unfold gB; rw [hr]; simp [hnil]
        have hs0 : (strB l).toList.isEmpty = false := by
          rw [str_list]
          cases l with
          | nil => exact absurd rfl hnil
          | cons => rfl
        clear hr hnil
        go_wp2_with fail
        go_ret2
        exact ⟨ret_pair H1.out.symm H2.out.symm, HD.out⟩
end Go.Proofs.Ytlkjopbgobkgmaa
