/- What a new machine has: its cells, its words, that it is right; plain facts. -/
import Derived.Test.YtbighilgkmfemaaDoorVmCodeN
namespace Go.Proofs.YtbighilgkmfemaaDoor
open Go.RowKit
set_option linter.unusedVariables false
set_option linter.unusedSimpArgs false

theorem bn_row {L j : Nat} (hj : j < L) : bn (rowN L 167, []) j = (byteN 167 j).toNat := by
  unfold bn
  rw [List.getD_eq_getElem?_getD, rowN_at hj]
  rfl
theorem cell_ok {L p : Nat} (h8 : p % 8 = 0) (hp : p + 8 ≤ L) : cellC L (p : Int) = 0 := by
  have h1 : okB L (p : Int) 8 = true := by unfold okB; rw [decide_eq_true_eq]; omega
  unfold cellC
  rw [if_pos h1, if_pos (by omega)]
theorem fetch_row {L p : Nat} (h8 : p % 8 = 0) (hp : p + 8 ≤ L) : fetchF (rowN L 167, []) (p : Int) = wrap64 (eight (byteN 167 p).toNat (byteN 167 (p + 1)).toNat (byteN 167 (p + 2)).toNat (byteN 167 (p + 3)).toNat (byteN 167 (p + 4)).toNat (byteN 167 (p + 5)).toNat (byteN 167 (p + 6)).toNat (byteN 167 (p + 7)).toNat : Int) := by
  unfold fetchF
  rw [show ((rowN L 167, ([] : List Pt)) : PM).1.length = L from rowN_len L 167, if_pos (cell_ok h8 hp), Int.toNat_natCast]
  rw [bn_row (by omega), bn_row (by omega), bn_row (by omega), bn_row (by omega), bn_row (by omega), bn_row (by omega), bn_row (by omega), bn_row (by omega)]
set_option maxRecDepth 100000 in
theorem field_bytes : ∀ i, i < 167 → wrap64 (eight (byteN 167 (32 + 8 * i)).toNat (byteN 167 (32 + 8 * i + 1)).toNat (byteN 167 (32 + 8 * i + 2)).toNat (byteN 167 (32 + 8 * i + 3)).toNat (byteN 167 (32 + 8 * i + 4)).toNat (byteN 167 (32 + 8 * i + 5)).toNat (byteN 167 (32 + 8 * i + 6)).toNat (byteN 167 (32 + 8 * i + 7)).toNat : Int) = ((numN i : Nat) : Int) := by decide +kernel
/-- A code field's cell is its number; BASE has 10. -/
theorem fetch_num {L i : Nat} (hL : 1368 ≤ L) (hi : i < 167) : fetchF (rowN L 167, []) ((32 + 8 * i : Nat) : Int) = ((numN i : Nat) : Int) := by
  rw [fetch_row (by omega) (by omega)]
  exact field_bytes i hi
theorem fetch_base {L : Nat} (hL : 1368 ≤ L) : fetchF (rowN L 167, []) 0 = 10 := by
  have h := fetch_row (L := L) (p := 0) (by omega) (by omega)
  rw [show ((0 : Nat) : Int) = 0 from rfl] at h
  rw [h]
  decide +kernel
theorem code_num : ∀ i, i < 167 → codeB ((numN i : Nat) : Int) = true := by decide +kernel
theorem kind_num {L i : Nat} (hL : 1368 ≤ L) (hi : i < 167) : kindV (rowN L 167, []) L ((32 + 8 * i : Nat) : Int) = ((numN i : Nat) : Int) ∧ kindC (rowN L 167, []) L ((32 + 8 * i : Nat) : Int) = 0 := by
  have h1 := cell_ok (L := L) (p := 32 + 8 * i) (by omega) (by omega)
  have h2 := fetch_num hL hi
  have h3 := code_num i hi
  unfold kindV kindC
  rw [h2]
  exact ⟨if_pos ⟨h1, h3⟩, by rw [if_pos h1, if_pos h3]⟩
/-- The words that are found. -/
theorem find_prim : ∀ i, i < 130 → findI (newW 167) (nmN i) = if i < 12 then none else some i := by decide +kernel
theorem find_spec : ∀ j, j < 37 → findI (newW 167) (nmN (130 + j)) = some (130 + j) := by decide +kernel
theorem find_dup : findI (newW 167) [100, 117, 112] = some 23 := by decide +kernel
theorem nword_at {i : Nat} (h : i < 167) : (newW 167).getD i w0 = wordN i := by
  rw [List.getD_eq_getElem?_getD]
  unfold newW
  rw [List.getElem?_map, List.getElem?_range h]
  rfl
theorem words_right : dRight (newW 167) = true := by decide +kernel
theorem words_few : ∀ q ∈ newW 167, 0 ≤ q.fl ∧ q.fl ≤ 7 ∧ q.nm.length ≤ 60 := by decide +kernel
theorem row_right {L : Nat} (h : L ≤ 65536) (h8 : L % 8 = 0) : rightB (rowN L 167, []) = true := by
  unfold rightB
  rw [show ((rowN L 167, ([] : List Pt)) : PM).1.length = L from rowN_len L 167]
  simp [h, h8]
/-- The machine that New makes, in whatever letters. -/
def confK (m d r v o : Int) : VmK := { vm0 with cm := m, cd := d, cr := r, cw := v, co := o, here := 1368 }
theorem sc_new (L : Nat) (d r v o : Int) (A1 : Option Addr) (c1 : Nat) (A2 : Option Addr) (c2 : Nat) : Sc (newJ L d r v o A1 c1 A2 c2) (confK L d r v o) := ⟨rfl, rfl, rfl, rfl, rfl, rfl, rfl, rfl, rfl, rfl, rfl, rfl, rfl⟩
structure Lens (k : VmK) (L : VmL) : Prop where
  m : L.m.1.length = k.mn
  d : L.d.length = k.dn
  r : L.r.length = k.rn
  f : L.f.length = k.fn
  dict : L.dict.length = k.wn
  o : L.o.length = k.on
  q : L.q.length = k.qn
  e : L.e.length = k.en
  h : L.h.length = k.hn
theorem IsVm.lens {w : World} {k : VmK} {L : VmL} (h : IsVm w k L) : Lens k L := ⟨h.m.len1, h.d.1, h.r.1, h.f.len, h.dict.len, h.o.len, h.q.len, h.e.len, h.h.len⟩
theorem right_new {w : World} {k : VmK} {L : Nat} {d r v o : Int} (h : IsVm w k (newL L)) (s : Sc k (confK L d r v o)) (hf : fitsB (L : Int) d r v o = true) : vRight k (newL L) = true := by
  have l := h.lens
  have hm : k.mn = L := by have := l.m; rw [← this]; exact rowN_len L 167
  have hd : k.dn = 0 := l.d.symm
  have hr : k.rn = 0 := l.r.symm
  have hff : k.fn = 0 := l.f.symm
  have hw : k.wn = 167 := by have := l.dict; rw [← this]; exact newW_len 167
  have ho : k.on = 0 := l.o.symm
  have hq : k.qn = 0 := l.q.symm
  have he : k.en = 0 := l.e.symm
  have hh : k.hn = 0 := l.h.symm
  have f := (fits_iff (L : Int) d r v o).1 hf
  have s1 : k.cm = (L : Int) := s.cm
  have s2 : k.cd = d := s.cd
  have s3 : k.cr = r := s.cr
  have s4 : k.cw = v := s.cw
  have s5 : k.co = o := s.co
  have s6 : k.here = 1368 := s.here
  have s7 : k.qo = false := s.qo
  have s8 : k.free = 0 := s.free
  have s9 : k.next = 0 := s.next
  have h1 : fitsV k = true := by unfold fitsV; rw [s1, s2, s3, s4, s5]; exact hf
  have h2 : rightB (newL L).m = true := row_right (by omega) (by omega)
  have h3 : dRight (newL L).dict = true := words_right
  have h4 : pRight k.qo (newL L).q = true := by rw [s7]; unfold pRight newL; simp
  have h5 : headB k = true := by unfold headB; rw [decide_eq_true_eq, s1, s6, hm]; omega
  have h6 : tailB k = true := by unfold tailB; rw [decide_eq_true_eq, hd, hr, hff, hw, ho, he, hh, s2, s3, s4, s5, s8, s9]; omega
  unfold vRight
  rw [h1, h2, h3, h4, h5, h6]
  rfl
theorem wrong_zero : vRight vm0 noneL = false := by
  have h1 : fitsV vm0 = false := by decide
  unfold vRight
  rw [h1]
  rfl
end Go.Proofs.YtbighilgkmfemaaDoor
