/- What the laws of this stage lean on, part 2: MemWalksF, MemRight, MemRefI, MemSame, NumSpec, NumMath, NumStr, MemSameB, MemRefJ, MemShown, MemOpen, MemUndoesA, BytApp, NumRefB, NumRefC. -/
import Derived.Test.YtbighilgkmfemaaGreatDoorSetA
import Derived.Deep.RegionHeld3
import Derived.Test.YtbighilgkmfemaaGreatDoorProg
import Derived.Laws.IdiomStrings
import Derived.Laws.BytesString
import Derived.ProofKit
import Derived.OpenShut
import Derived.ShutString
import Derived.ChangeOld
import Derived.Below
import Derived.Lib.SmallJoins
import Derived.Deep.Slices
import Derived.Deep.Fields
import Derived.Deep.DeepCutAuto
import Derived.Deep.Cut

/- Contracts of Mark, Free, New and Store of package mem. -/
namespace Go.Proofs.YtbighilgkmfemaaGreatDoor
open Go.RowKit

/-- A memory's two slices. -/
theorem IsMem.slices {w : World} {x y : Value} {m : PM} (h : IsMem w (.agg #[x, y]) m) : ∃ A n c P k d, x = .slice A n c ∧ y = .slice P k d := by
  obtain ⟨A, c, P, d, e, _, _⟩ := h.parts
  injection e with e
  simp at e
  exact ⟨A, _, c, P, _, d, e.1, e.2⟩

/-- What a call's frame holds while it calls: its memory in one block, its result in the next. -/
def Fr (w : World) (A P : Option Addr) (L c K d : Nat) (w' : World) : Prop := Below w.heap.size w w' ∧ Box w' w.heap.size (.slice A L c) (.slice P K d) 27 ∧ Box w' (w.heap.size + 1) (.slice none 0 0) (.slice none 0 0) 27
theorem Fr.keep {w w1 w2 : World} {A P : Option Addr} {L c K d : Nat} (h : Fr w A P L c K d w1) (b : Below w1.heap.size w1 w2) : Fr w A P L c K d w2 := ⟨below_then h.1 b, h.2.1.keep b, h.2.2.keep b⟩
theorem Fr.bel {w w1 : World} {A P : Option Addr} {L c K d : Nat} (h : Fr w A P L c K d w1) : Below w.heap.size w w1 := h.1
theorem Fr.drew {w w1 : World} {A P : Option Addr} {L c K d : Nat} (h : Fr w A P L c K d w1) : Fr w A P L c K d w1.drew := ⟨h.1.drew, h.2.1, h.2.2⟩
theorem fr_two {w w1 : World} {A P : Option Addr} {L c K d : Nat} (b : Below ((w.alloc (.cells #[.slice A L c, .slice P K d] 27)).alloc (.cells #[.slice none 0 0, .slice none 0 0] 27)).heap.size ((w.alloc (.cells #[.slice A L c, .slice P K d] 27)).alloc (.cells #[.slice none 0 0, .slice none 0 0] 27)) w1) : Fr w A P L c K d w1 :=
  ⟨below_two b, (box_two w _ _ _ _ _ _).1.keep b, (box_two w _ _ _ _ _ _).2.keep b⟩
theorem Fr.put {w w1 : World} {A P : Option Addr} {L c K d : Nat} (h : Fr w A P L c K d w1) (x y : Value) : Below w.heap.size w ((w1.setCell ⟨w.heap.size + 1, 0, none⟩ x).setCell ⟨w.heap.size + 1, 1, none⟩ y) := (h.1.setCell (by simp) _).setCell (by simp) _
theorem Fr.mem {w w1 : World} {A P : Option Addr} {L c K d : Nat} (h : Fr w A P L c K d w1) {v : Value} {m : PM} (k : IsMem w1 v m) (x y : Value) : IsMem ((w1.setCell ⟨w.heap.size + 1, 0, none⟩ x).setCell ⟨w.heap.size + 1, 1, none⟩ y) v m := k.row h.2.2 (row_put _ _ _ _)

def newF (n : Int) : PM := if newOk n = true then (List.replicate n.toNat 0, []) else ([], [])
def newC (n : Int) : Int := if newOk n = true then 0 else -24
theorem made_u8 (n : Nat) : (madeCells (Value.int .u8 0).cells n) = (u8s (List.replicate n 0)).toArray := by
  apply Array.ext
  · simp [madeCells, u8s]
  · intro i h1 h2
    have e : i % 1 = 0 := by omega
    simp [madeCells, u8s, Value.cells, e]
def storeF (m : PM) (p n : Int) : PM := if cellC m.1.length p = 0 then writeF m p (cellBytes n) else m
theorem store_ok {L : Nat} {p : Int} (h : cellC L p = 0) : okB L p 8 = true := by
  cases e : okB L p 8 with
  | true => rfl
  | false => rw [cellC_no e] at h; cases h

/-- Its frame, whatever its result holds. -/
def Fw (w : World) (A P : Option Addr) (L c K d : Nat) (w' : World) : Prop := Below w.heap.size w w' ∧ Box w' w.heap.size (.slice A L c) (.slice P K d) 27 ∧ ∃ A0 n0 c0 P0 k0 d0, Box w' (w.heap.size + 1) (.slice A0 n0 c0) (.slice P0 k0 d0) 27
theorem Fw.bel {w w1 : World} {A P : Option Addr} {L c K d : Nat} (h : Fw w A P L c K d w1) : Below w.heap.size w w1 := h.1
theorem Fw.res {w w1 : World} {A P : Option Addr} {L c K d : Nat} (h : Fw w A P L c K d w1) : ∃ A0 n0 c0 P0 k0 d0, Box w1 (w.heap.size + 1) (.slice A0 n0 c0) (.slice P0 k0 d0) 27 := h.2.2
theorem fwS {w w1 : World} {A P : Option Addr} {L c K d : Nat} (h : Fr w A P L c K d w1) : w1.cell? ⟨w.heap.size, 0, none⟩ = some (.slice A L c) ∧ w1.cell? ⟨w.heap.size, 1, none⟩ = some (.slice P K d) ∧ Fw w A P L c K d w1 :=
  ⟨h.2.1.use.1, h.2.1.use.2.1, h.1, h.2.1, _, _, _, _, _, _, h.2.2⟩
theorem fwK {w w1 w2 : World} {A P : Option Addr} {L c K d : Nat} (h : w1.cell? ⟨w.heap.size, 0, none⟩ = some (.slice A L c) ∧ w1.cell? ⟨w.heap.size, 1, none⟩ = some (.slice P K d) ∧ Fw w A P L c K d w1) (b : Below w1.heap.size w1 w2) : w2.cell? ⟨w.heap.size, 0, none⟩ = some (.slice A L c) ∧ w2.cell? ⟨w.heap.size, 1, none⟩ = some (.slice P K d) ∧ Fw w A P L c K d w2 := by
  obtain ⟨_, _, h1, h2, A0, n0, c0, P0, k0, d0, h3⟩ := h
  have h2' := h2.keep b
  exact ⟨h2'.use.1, h2'.use.2.1, below_then h1 b, h2', _, _, _, _, _, _, h3.keep b⟩
theorem fwP {w w1 : World} {A P : Option Addr} {L c K d : Nat} (h : w1.cell? ⟨w.heap.size, 0, none⟩ = some (.slice A L c) ∧ w1.cell? ⟨w.heap.size, 1, none⟩ = some (.slice P K d) ∧ Fw w A P L c K d w1) (A' P' : Option Addr) (L' c' K' d' : Nat) : ((w1.setCell ⟨w.heap.size + 1, 0, none⟩ (.slice A' L' c')).setCell ⟨w.heap.size + 1, 1, none⟩ (.slice P' K' d')).cell? ⟨w.heap.size, 0, none⟩ = some (.slice A L c) ∧ ((w1.setCell ⟨w.heap.size + 1, 0, none⟩ (.slice A' L' c')).setCell ⟨w.heap.size + 1, 1, none⟩ (.slice P' K' d')).cell? ⟨w.heap.size, 1, none⟩ = some (.slice P K d) ∧ Fw w A P L c K d ((w1.setCell ⟨w.heap.size + 1, 0, none⟩ (.slice A' L' c')).setCell ⟨w.heap.size + 1, 1, none⟩ (.slice P' K' d')) := by
  obtain ⟨_, _, h1, h2, A0, n0, c0, P0, k0, d0, h3⟩ := h
  have h2' := h2.row (row_put w1 (w.heap.size + 1) (.slice A' L' c') (.slice P' K' d')) (by omega)
  exact ⟨h2'.use.1, h2'.use.2.1, (h1.setCell (by simp) _).setCell (by simp) _, h2', _, _, _, _, _, _, h3.put _ _⟩

set_option maxRecDepth 100000 in
set_option maxHeartbeats 2000000 in
theorem free_at (A P : Option Addr) (L c K d : Nat) (w : World) :
    Calls Tryz.prog 85 #[.agg #[.slice A L c, .slice P K d]] w fun e w' => e = .returned (.agg #[.slice A L c, .slice none 0 0]) ∧ Below w.heap.size w w' := by
  go_enter Tryz.func85, Tryz.ntmps85
  go_wp2
  refine bodyPost_ret (v := .agg #[.slice A L c, .slice none 0 0]) ?_ rfl ?_
  · simp [results, Tryz.results85, go_sem]
  · exact ⟨rfl, ((Below.refl _ _).alloc (Nat.le_refl _) _).alloc (by simp) _⟩

set_option maxRecDepth 100000 in
set_option maxHeartbeats 2000000 in
theorem new_any (n : Int) (w : World) :
    Calls Tryz.prog 81 #[.int .i64 n] w fun e w' => ∃ A L c P K d, e = .returned (.tuple #[.agg #[.slice A L c, .slice P K d], .int .i64 (newC n)]) ∧ IsMem w' (.agg #[.slice A L c, .slice P K d]) (newF n) ∧ Below w.heap.size w w' := by
  by_cases h : newOk n = true
  · have HC : Hid (newC n = 0) := if_pos h
    have HF : Hid (newF n = (List.replicate n.toNat 0, [])) := if_pos h
    have h' := h
    unfold newOk at h'
    rw [decide_eq_true_eq] at h'
    obtain ⟨h1, h2, h3⟩ := h'
    obtain ⟨k, rfl⟩ := Int.eq_ofNat_of_zero_le (by omega : 0 ≤ n)
    have h4 : decide ((k : Int) < 8) = false := by simp; omega
    have h5 : decide ((65536 : Int) < (k : Int)) = false := by simp; omega
    have h6 : ((k : Int) % 8 != 0) = false := by simp [h3]
    obtain ⟨i0, hi, hz0, hz1, hz2⟩ := info_parts info_u8
    obtain ⟨Z, hZ⟩ : ∃ Z, Z = (u8s (List.replicate k 0)).toArray := ⟨_, rfl⟩
    have hmk : ∀ w : World, (Instr.makeSlice 24 (.int .i64 (k : Int)) (.int .i64 (k : Int))).run Tryz.prog w = .ok (.slice (some ⟨w.heap.size, 0, none⟩) k k) (w.alloc (.cells Z 5)) := by
      intro w
      have := run_make (P := Tryz.prog) w 24 5 i0 (.int .u8 0) Tryz.underlying24 hi hz0 .i64 .i64 k k (by omega) (Int.le_refl _) (by rw [hz2]; omega) (by omega)
      rw [hz1, Nat.mul_one, Int.toNat_natCast, made_u8] at this
      rw [hZ]
      exact this
    have HZ := Lib.hid hZ
    rw [HC.out]
    clear hZ h h3 hi hz0 hz1 hz2
    go_enter Tryz.func81, Tryz.ntmps81
    go_wp2
    refine bodyPost_ret (v := .tuple #[.agg #[.slice (some ⟨w.heap.size + 1, 0, none⟩) k k, .slice none 0 0], .int .i64 0]) ?_ rfl ?_
    · simp [results, Tryz.results81, go_sem]
    · refine ⟨_, _, _, _, _, _, rfl, ?_, ((Below.refl _ _).alloc (Nat.le_refl _) _).alloc (by simp) _⟩
      rw [HF.out, HZ.out]
      refine mem_mk ?_ (pats_nil _)
      have e : (List.replicate k (0 : UInt8)).length = k := by simp
      have := byt_block (w := (w.alloc (.cells #[.slice (some ⟨w.heap.size + 1, 0, none⟩) k k, .slice none 0 0] 27)).alloc (.cells (u8s (List.replicate k 0)).toArray 5)) (g := w.heap.size + 1) (l := List.replicate k 0) (t := 5) (two_new _ _ _ _ _).1 (by rw [e]; omega)
      rw [e] at this
      simpa using this
  · have hn : newOk n = false := by simpa using h
    have HC : Hid (newC n = -24) := if_neg h
    have HF : Hid (newF n = ([], [])) := if_neg h
    rw [HC.out]
    have HN : Hid (¬ (8 ≤ n ∧ n ≤ 65536 ∧ n % 8 = 0)) := by unfold newOk at hn; exact of_decide_eq_false hn
    have hfin : ∀ w' : World, IsMem w' (.agg #[.slice none 0 0, .slice none 0 0]) (newF n) := fun w' => by rw [HF.out]; exact mem_mk (byt_nil _) (pats_nil _)
    have HFIN := Lib.hid hfin
    clear hn h hfin
    by_cases h1 : n < 8
    · go_enter Tryz.func81, Tryz.ntmps81
      go_wp2
      refine bodyPost_ret (v := .tuple #[.agg #[.slice none 0 0, .slice none 0 0], .int .i64 (-24)]) ?_ rfl ?_
      · simp [results, Tryz.results81, go_sem]
      · exact ⟨_, _, _, _, _, _, rfl, HFIN.out _, (Below.refl _ _).alloc (Nat.le_refl _) _⟩
    · have h1' : decide (n < 8) = false := by simp; omega
      by_cases h2 : 65536 < n
      · go_enter Tryz.func81, Tryz.ntmps81
        go_wp2
        refine bodyPost_ret (v := .tuple #[.agg #[.slice none 0 0, .slice none 0 0], .int .i64 (-24)]) ?_ rfl ?_
        · simp [results, Tryz.results81, go_sem]
        · exact ⟨_, _, _, _, _, _, rfl, HFIN.out _, (Below.refl _ _).alloc (Nat.le_refl _) _⟩
      · have h2' : decide ((65536 : Int) < n) = false := by simp; omega
        have h3 : n % 8 ≠ 0 := by have := HN.out; omega
        have h3' : (n % 8 != 0) = true := by simp [h3]
        have h0 : 0 ≤ n := by omega
        clear h3 h1 h2
        go_enter Tryz.func81, Tryz.ntmps81
        go_wp2
        refine bodyPost_ret (v := .tuple #[.agg #[.slice none 0 0, .slice none 0 0], .int .i64 (-24)]) ?_ rfl ?_
        · simp [results, Tryz.results81, go_sem]
        · exact ⟨_, _, _, _, _, _, rfl, HFIN.out _, (Below.refl _ _).alloc (Nat.le_refl _) _⟩

/-- Write, with its memory's slices told. -/
theorem write_sl (v u : Value) (m : PM) (b : List UInt8) (p : Int) (w : World) (h : IsMem w v m) (hu : Byt w u b) (hL : m.1.length ≤ 65536) (hK : m.2.length < 1000) (hb : b.length ≤ 65536) :
    Calls Tryz.prog 84 #[v, .int .i64 p, u] w fun e w' => ∃ A L c P K d, e = .returned (.tuple #[.agg #[.slice A L c, .slice P K d], .int .i64 (codeF (okB m.1.length p b.length))]) ∧ IsMem w' (.agg #[.slice A L c, .slice P K d]) (writeF m p b) ∧ Below w.heap.size w w' := by
  refine (write_any v u m b p w h hu hL hK hb).mono fun e w' ⟨x, y, he, hm, hw⟩ => ?_
  obtain ⟨A, n, c, P, k, d, rfl, rfl⟩ := hm.slices
  exact ⟨A, n, c, P, k, d, he, hm, hw⟩

set_option maxRecDepth 100000 in
set_option maxHeartbeats 2000000 in
theorem store_at (A P : Option Addr) (L c K d : Nat) (m : PM) (p n : Int) (w : World) (HM : Hid (IsMem w (.agg #[.slice A L c, .slice P K d]) m)) (hL : L ≤ 65536) (hK : K < 1000) :
    Calls Tryz.prog 111 #[.agg #[.slice A L c, .slice P K d], .int .i64 p, .int .i64 n] w fun e w' => ∃ A' L' c' P' K' d', e = .returned (.tuple #[.agg #[.slice A' L' c', .slice P' K' d'], .int .i64 (cellC L p)]) ∧ IsMem w' (.agg #[.slice A' L' c', .slice P' K' d']) (storeF m p n) ∧ Below w.heap.size w w' := by
  obtain ⟨C, hC⟩ : ∃ C, cellC L p = C := ⟨_, rfl⟩
  by_cases h0 : C = 0
  · subst h0
    have HF : Hid (storeF m p n = writeF m p (cellBytes n)) := by unfold storeF; rw [if_pos (by rw [HM.out.len1]; exact hC)]; rfl
    have ok : okB m.1.length p (cellBytes n).length = true := by rw [HM.out.len1, cellBytes_len]; exact store_ok hC
    have CW : Hid (∀ (w1 : World) (B : Option Addr) (k e : Nat), IsMem w1 (.agg #[.slice A L c, .slice P K d]) m → Byt w1 (.slice B k e) (cellBytes n) → Calls Tryz.prog 84 #[.agg #[.slice A L c, .slice P K d], .int .i64 p, .slice B k e] w1 fun e w' => ∃ A' L' c' P' K' d', e = .returned (.tuple #[.agg #[.slice A' L' c', .slice P' K' d'], .int .i64 0]) ∧ IsMem w' (.agg #[.slice A' L' c', .slice P' K' d']) (writeF m p (cellBytes n)) ∧ Below w1.heap.size w1 w') := by
      intro w1 B k e hm hb
      have := write_sl _ _ m (cellBytes n) p w1 hm hb (by rw [HM.out.len1]; exact hL) (by rw [HM.out.len2]; exact hK) (by rw [cellBytes_len]; omega)
      rw [ok, codeF_yes] at this
      exact this
    rw [HF.out, hC]
    have HC := Lib.hid hC
    clear hC ok
    go_enter Tryz.func111, Tryz.ntmps111
    go_wp2_with fail
    refine (cellCode_any _ _ _ _ _ _ _ _ hL).mono ?_
    rw [HC.out]
    rintro e w1 ⟨rfl, b1⟩
    have F1 := fr_two b1
    clear b1
    go_wp2_with fail
    refine wp_region_noPanic ?_
    go_region_held (fun w' => w'.cell? ⟨w.heap.size, 0, none⟩ = some (.slice A L c) ∧ w'.cell? ⟨w.heap.size, 1, none⟩ = some (.slice P K d) ∧ Fw w A P L c K d w') (first | assumption | exact fwS F1.drew | exact fwP (by assumption) _ _ _ _ _ _)
      (first | (go_at_call 123; ((with_reducible refine (put_byt _ _).mono ?_); rintro e w2 ⟨B, k, e', rfl, hu2, b2⟩; have s2 := fwK (by assumption) b2)) | (go_at_call 84; ((with_reducible refine (CW.out _ _ _ _ (HM.out.keep s2.2.2.bel) hu2).mono ?_); rintro e w3 ⟨A', L', c', P', K', d', rfl, hm3, b3⟩; have s3 := fwK (by assumption) b3; obtain ⟨A0, n0, c0, P0, k0, d0, hres⟩ := s3.2.2.res; obtain ⟨q2, q3, q4, q5⟩ := hres.use)))
    all_goals (refine NoPanic.normal ?_)
    all_goals go_wp2
    all_goals refine bodyPost_ret (v := .tuple #[.agg #[.slice A' L' c', .slice P' K' d'], .int .i64 0]) ?_ rfl ?_
    · obtain ⟨r0, r1⟩ := hres.got (.slice A' L' c') (.slice P' K' d')
      simp [results, Tryz.results111, go_sem, r0, r1]
    · exact ⟨_, _, _, _, _, _, rfl, hm3.row hres (row_put _ _ _ _), (s3.2.2.bel.setCell (by simp) _).setCell (by simp) _⟩
  · have hF : storeF m p n = m := by unfold storeF; rw [if_neg (by rw [HM.out.len1, hC]; exact h0)]
    rw [hF, hC]
    have HC := Lib.hid hC
    have h0' : (C != 0) = true := by simp [h0]
    clear hC hF h0
    go_enter Tryz.func111, Tryz.ntmps111
    go_wp2_with fail
    refine (cellCode_any _ _ _ _ _ _ _ _ hL).mono ?_
    rw [HC.out]
    rintro e w1 ⟨rfl, b1⟩
    have F1 := Lib.hid (fr_two b1)
    obtain ⟨q0, q1, _, _⟩ := (fr_two b1).2.1.use
    obtain ⟨q2, q3, q4, q5⟩ := (fr_two b1).2.2.use
    clear b1
    go_wp2_with fail
    refine bodyPost_ret (v := .tuple #[.agg #[.slice A L c, .slice P K d], .int .i64 C]) ?_ rfl ?_
    · obtain ⟨r0, r1⟩ := F1.out.2.2.got (.slice A L c) (.slice P K d)
      simp [results, Tryz.results111, go_sem, r0, r1]
    · exact ⟨_, _, _, _, _, _, rfl, F1.out.mem (HM.out.keep F1.out.1) _ _, F1.out.put _ _⟩

end Go.Proofs.YtbighilgkmfemaaGreatDoor

/- Contracts of Right of package mem, and of the document's own Few, Right and May. -/
namespace Go.Proofs.YtbighilgkmfemaaGreatDoor
open Go.RowKit

/-- A patch of a memory, as it lies. -/
theorem mem_patch {w : World} {P : Option Addr} {K d : Nat} {x : Value} {m : PM} (h : IsMem w (.agg #[x, .slice P K d]) m) {j : Nat} (hj : j < K) :
    ∃ g o B n e p, P = some ⟨g, o, none⟩ ∧ g < w.heap.size ∧ m.2[j]? = some p ∧ w.cell? ⟨g, o + j * 2, none⟩ = some (.int .i64 p.1) ∧ w.cell? ⟨g, o + j * 2 + 1, none⟩ = some (.slice B n e) ∧ Byt w (.slice B n e) p.2 ∧ n ≤ maxLen ∧ K ≤ d := by
  have hl := h.len2
  have hp : m.2[j]? = some (m.2[j]'(by omega)) := List.getElem?_eq_getElem (by omega)
  obtain ⟨A', c', qs, e, hk, _, hlies, ht⟩ := h.pats
  injection e with e1 _ e3
  subst e1 e3
  obtain ⟨v, hq, hb⟩ := ht.at_ hp
  obtain ⟨B, c, rfl⟩ := hb.form
  have hlen := pc_at qs j _ hq
  rcases hlies with e | ⟨g, o, rfl, hg, hc⟩
  · rw [e] at hlen
    simp at hlen
  · have hm : (m.2[j]'(by omega)).2.length ≤ maxLen := by
      obtain ⟨A2, c2, e2, h2, h3, _⟩ := hb
      omega
    refine ⟨g, o, B, _, c, _, rfl, hg, hp, ?_, ?_, hb, hm, by omega⟩
    · have := hc (2 * j) _ hlen.1
      rw [Nat.mul_comm j 2]
      exact this
    · have := hc (2 * j + 1) _ hlen.2
      rw [Nat.mul_comm j 2, Nat.add_assoc]
      exact this
theorem all_take_step {α : Type} {f : α → Bool} {l : List α} {j : Nat} {p : α} (h : l[j]? = some p) : (l.take (j + 1)).all f = ((l.take j).all f && f p) := by
  have hj : j < l.length := (List.getElem?_eq_some_iff.1 h).1
  have e : l[j] = p := (List.getElem?_eq_some_iff.1 h).2
  rw [List.take_succ_eq_append_getElem hj, List.all_append, e]
  simp
theorem all_no {α : Type} {f : α → Bool} {l : List α} {j : Nat} {p : α} (h : l[j]? = some p) (hf : f p = false) : l.all f = false := by
  rw [List.all_eq_false]
  exact ⟨p, List.mem_of_getElem? h, by simp [hf]⟩
theorem IsMem.big {w : World} {A P : Option Addr} {L c K d : Nat} {m : PM} (h : IsMem w (.agg #[.slice A L c, .slice P K d]) m) : L ≤ maxLen ∧ K ≤ maxLen := by
  have h1 := h.byt
  have h2 := h.pats
  obtain ⟨_, _, e, h3, h4, _⟩ := h1
  obtain ⟨_, _, _, e', h5, h6, _⟩ := h2
  injection e with _ e _
  injection e' with _ e' _
  omega

def few1 (q : Pt) : Bool := decide (q.2.length ≤ 200)
theorem fewB_eq (m : PM) (n : Nat) : fewB m n = (decide (m.1.length ≤ n) && decide (m.2.length ≤ 60) && m.2.all few1) := rfl

set_option maxRecDepth 100000 in
set_option maxHeartbeats 2000000 in
theorem few_at (A P : Option Addr) (L c K d : Nat) (m : PM) (w : World) (HM : Hid (IsMem w (.agg #[.slice A L c, .slice P K d]) m)) :
    Calls Tryz.prog 39 #[.agg #[.slice A L c, .slice P K d], .int .i64 600] w fun e w' => e = .returned (.bool (fewB m 600)) ∧ Below w.heap.size w w' := by
  have hbig := HM.out.big
  unfold maxLen at hbig
  obtain ⟨hL, hK⟩ := hbig
  have H : Hid (fewB m 600 = (decide (L ≤ 600) && decide (K ≤ 60) && m.2.all few1)) := by show _ = _; rw [fewB_eq, HM.out.len1, HM.out.len2]
  by_cases h1 : 600 < L
  · have H2 : Hid (fewB m 600 = false) := by rw [H.out, decide_eq_false (by omega)]; rfl
    rw [H2.out]
    have h1' : (600 : Int) < (L : Int) := by omega
    go_enter Tryz.func39, Tryz.ntmps39
    go_wp2
    go_ret
    exact ⟨rfl, (Below.refl _ _).alloc (Nat.le_refl _) _⟩
  · have h1' : decide ((600 : Int) < (L : Int)) = false := by simp; omega
    by_cases h2 : 60 < K
    · have H2 : Hid (fewB m 600 = false) := by rw [H.out, decide_eq_false (show ¬ K ≤ 60 by omega)]; simp [Hid]
      rw [H2.out]
      have h2' : (60 : Int) < (K : Int) := by omega
      clear h1
      go_enter Tryz.func39, Tryz.ntmps39
      go_wp2
      go_ret
      exact ⟨rfl, (Below.refl _ _).alloc (Nat.le_refl _) _⟩
    · have h2' : decide ((60 : Int) < (K : Int)) = false := by simp; omega
      have H2 : Hid (fewB m 600 = m.2.all few1) := by rw [H.out, decide_eq_true (by omega), decide_eq_true (by omega)]; simp [Hid]
      rw [H2.out]
      have hK60 : K ≤ 60 := by omega
      clear h1 h2 H H2
      go_enter Tryz.func39, Tryz.ntmps39
      go_wp2
      go_loop [5] (fun i => ∃ j : Nat, j ≤ K ∧ i = .int .i64 (j : Int) ∧ Hid ((m.2.take j).all few1 = true)) (fun i => K - (intOf i).toNat)
      case atStart => exact ⟨0, Nat.zero_le _, rfl, by simp [Hid]⟩
      case round =>
        obtain ⟨j, hj, rfl, hall⟩ := hrel
        by_cases hlt : j < K
        · obtain ⟨g, o, B, n, e, p, rfl, hg, hp, hc1, hc2, hby, hn, hKd⟩ := mem_patch HM.out hlt
          have hc : (w.alloc (.cells #[.slice A L c, .slice (some ⟨g, o, none⟩) K d] 27)).cell? ⟨g, o + j * 2 + 1, none⟩ = some (.slice B n e) := ((((Below.refl _ w).alloc (Nat.le_refl _) _).cell (p := ⟨g, o + j * 2 + 1, none⟩) hg)).trans hc2
          have HP := Lib.hid hp
          have HN : Hid (p.2.length = n) := hby.len
          unfold maxLen at hn
          clear hp hby hc1 hc2
          by_cases hb : 200 < n
          · have hb' : (200 : Int) < (n : Int) := by omega
            have HR : Hid (m.2.all few1 = false) := all_no HP.out (by unfold few1; rw [HN.out]; exact decide_eq_false (by omega))
            go_wp2
            go_ret
            exact ⟨ret_bool HR.out.symm, (Below.refl _ _).alloc (Nat.le_refl _) _⟩
          · have hb' : decide ((200 : Int) < (n : Int)) = false := by simp; omega
            have HR : Hid ((m.2.take (j + 1)).all few1 = true) := by
              rw [all_take_step HP.out, hall.out]
              unfold few1
              rw [HN.out, decide_eq_true (by omega)]
              rfl
            clear hb
            go_wp2
            go_round
            case rel => exact ⟨j + 1, by omega, by go_num, HR.out⟩
            case measure => simp [intOf]; omega
        · have hjk : j = K := by omega
          subst hjk
          have hl := HM.out.len2
          have HR : Hid (m.2.all few1 = true) := by
            have := hall.out
            rw [List.take_of_length_le (by omega)] at this
            exact this
          clear hl
          go_wp2
          go_ret
          exact ⟨ret_bool HR.out.symm, (Below.refl _ _).alloc (Nat.le_refl _) _⟩

theorem rightB_eq (m : PM) (L : Nat) (h : m.1.length = L) : rightB m = (decide (L ≤ 65536) && decide (L % 8 = 0) && m.2.all (rightP L)) := by subst h; rfl

/-- A frame with its memory in one block. -/
def Rt (w : World) (A P : Option Addr) (L c K d : Nat) (w' : World) : Prop := Below w.heap.size w w' ∧ Box w' w.heap.size (.slice A L c) (.slice P K d) 27
theorem Rt.bel {w w1 : World} {A P : Option Addr} {L c K d : Nat} (h : Rt w A P L c K d w1) : Below w.heap.size w w1 := h.1
theorem Rt.box {w w1 : World} {A P : Option Addr} {L c K d : Nat} (h : Rt w A P L c K d w1) : Box w1 w.heap.size (.slice A L c) (.slice P K d) 27 := h.2
theorem Rt.keep {w w1 w2 : World} {A P : Option Addr} {L c K d : Nat} (h : Rt w A P L c K d w1) (b : Below w1.heap.size w1 w2) : Rt w A P L c K d w2 := ⟨below_then h.1 b, h.2.keep b⟩
theorem Rt.drew {w w1 : World} {A P : Option Addr} {L c K d : Nat} (h : Rt w A P L c K d w1) : Rt w A P L c K d w1.drew := ⟨h.1.drew, h.2⟩
theorem rt_new (w : World) (A P : Option Addr) (L c K d : Nat) : Rt w A P L c K d (w.alloc (.cells #[.slice A L c, .slice P K d] 27)) := ⟨(Below.refl _ _).alloc (Nat.le_refl _) _, box_new _ _ _ _⟩

set_option maxRecDepth 100000 in
set_option maxHeartbeats 2000000 in
theorem right_at (A P : Option Addr) (L c K d : Nat) (m : PM) (w : World) (HM : Hid (IsMem w (.agg #[.slice A L c, .slice P K d]) m)) :
    Calls Tryz.prog 93 #[.agg #[.slice A L c, .slice P K d]] w fun e w' => e = .returned (.bool (rightB m)) ∧ Below w.heap.size w w' := by
  have hbig := HM.out.big
  unfold maxLen at hbig
  obtain ⟨hL, hK⟩ := hbig
  have H := Lib.hid (rightB_eq m L HM.out.len1)
  by_cases h1 : 65536 < L
  · have H2 : Hid (rightB m = false) := by rw [H.out, decide_eq_false (by omega)]; rfl
    rw [H2.out]
    have h1' : (65536 : Int) < (L : Int) := by omega
    go_enter Tryz.func93, Tryz.ntmps93
    go_wp2
    go_ret
    exact ⟨rfl, (Below.refl _ _).alloc (Nat.le_refl _) _⟩
  · have h1' : decide ((65536 : Int) < (L : Int)) = false := by simp; omega
    by_cases h2 : L % 8 = 0
    · have h2' : ((L : Int) % 8 != 0) = false := by simp; omega
      have H2 : Hid (rightB m = m.2.all (rightP L)) := by rw [H.out, decide_eq_true (by omega), decide_eq_true h2]; simp [Hid]
      rw [H2.out]
      clear h1 h2 H H2
      go_enter Tryz.func93, Tryz.ntmps93
      go_wp2
      go_loopw [19] (fun i wr => ∃ j : Nat, j ≤ K ∧ i = .int .i64 (j : Int) ∧ Hid ((m.2.take j).all (rightP L) = true) ∧ Rt w A P L c K d wr) (fun i _ => K - (intOf i).toNat)
      case atStart => exact ⟨0, Nat.zero_le _, rfl, by simp [Hid], rt_new _ _ _ _ _ _ _⟩
      case round =>
        obtain ⟨j, hj, rfl, hall, hrt⟩ := hrel
        by_cases hlt : j < K
        · obtain ⟨g, o, B, n, e, p, rfl, hg, hp, hc1, hc2, hby, hn, hKd⟩ := mem_patch HM.out hlt
          have hd1 : wr.cell? ⟨g, o + j * 2, none⟩ = some (.int .i64 p.1) := (hrt.bel.cell (p := ⟨g, o + j * 2, none⟩) hg).trans hc1
          have hd2 : wr.cell? ⟨g, o + j * 2 + 1, none⟩ = some (.slice B n e) := (hrt.bel.cell (p := ⟨g, o + j * 2 + 1, none⟩) hg).trans hc2
          obtain ⟨q0, q1, _, _⟩ := hrt.box.use
          have hlt1 := hrt.box.lt
          have HP := Lib.hid hp
          have HR : Hid (rightP L p = okB L p.1 n) := by unfold rightP; rw [hby.len]; rfl
          have HRT := Lib.hid hrt
          obtain ⟨p1, hp1⟩ : ∃ p1, p.1 = p1 := ⟨_, rfl⟩
          rw [hp1] at hd1 HR
          unfold maxLen at hn
          clear hp hby hc1 hc2 hrt hp1
          cases ok : okB L p1 n with
          | true =>
            have HA : Hid ((m.2.take (j + 1)).all (rightP L) = true) := by rw [all_take_step HP.out, hall.out, HR.out, ok]; rfl
            go_wp2_with fail
            refine (there_any _ _ _ _ _ _ _ _ _ (by omega) (by omega)).mono ?_
            rw [ok]
            rintro e w2 ⟨rfl, b2⟩
            have HRT2 := Lib.hid (HRT.out.keep (box_below b2))
            clear b2 q0 q1 hd1 hd2
            go_wp2_with fail
            go_roundw
            case rel => exact ⟨j + 1, by omega, by go_num, HA.out, HRT2.out⟩
            case measure => simp [intOf]; omega
          | false =>
            have HA : Hid (m.2.all (rightP L) = false) := all_no HP.out (by rw [HR.out, ok])
            go_wp2_with fail
            refine (there_any _ _ _ _ _ _ _ _ _ (by omega) (by omega)).mono ?_
            rw [ok]
            rintro e w2 ⟨rfl, b2⟩
            have HRT2 := Lib.hid (HRT.out.keep (box_below b2))
            clear b2 q0 q1 hd1 hd2
            go_wp2_with fail
            go_ret
            exact ⟨ret_bool HA.out.symm, HRT2.out.bel⟩
        · have hjk : j = K := by omega
          subst hjk
          have hl := HM.out.len2
          have HR : Hid (m.2.all (rightP L) = true) := by
            have := hall.out
            rw [List.take_of_length_le (by omega)] at this
            exact this
          have HRT := Lib.hid hrt
          clear hl hrt
          go_wp2
          go_ret
          exact ⟨ret_bool HR.out.symm, HRT.out.bel⟩
    · have h2' : ((L : Int) % 8 != 0) = true := by simp; omega
      have H2 : Hid (rightB m = false) := by rw [H.out, decide_eq_false h2]; simp [Hid]
      rw [H2.out]
      clear h1 h2 H H2
      go_enter Tryz.func93, Tryz.ntmps93
      go_wp2
      go_ret
      exact ⟨rfl, (Below.refl _ _).alloc (Nat.le_refl _) _⟩
end Go.Proofs.YtbighilgkmfemaaGreatDoor

/- The document's own Right and May. -/
namespace Go.Proofs.YtbighilgkmfemaaGreatDoor
open Go.RowKit

theorem rtS {w w1 : World} {A P : Option Addr} {L c K d : Nat} (h : Rt w A P L c K d w1) {g o1 o2 : Nat} {x y : Value} (h1 : w1.cell? ⟨g, o1, none⟩ = some x) (h2 : w1.cell? ⟨g, o2, none⟩ = some y) : w1.drew.cell? ⟨w.heap.size, 0, none⟩ = some (.slice A L c) ∧ w1.drew.cell? ⟨w.heap.size, 1, none⟩ = some (.slice P K d) ∧ w1.drew.cell? ⟨g, o1, none⟩ = some x ∧ w1.drew.cell? ⟨g, o2, none⟩ = some y ∧ Rt w A P L c K d w1.drew :=
  ⟨h.box.use.1, h.box.use.2.1, h1, h2, h.drew⟩
theorem rtK {w w1 w2 : World} {A P : Option Addr} {L c K d : Nat} {g o1 o2 : Nat} {x y : Value} (hg : g < w.heap.size) (h : w1.cell? ⟨w.heap.size, 0, none⟩ = some (.slice A L c) ∧ w1.cell? ⟨w.heap.size, 1, none⟩ = some (.slice P K d) ∧ w1.cell? ⟨g, o1, none⟩ = some x ∧ w1.cell? ⟨g, o2, none⟩ = some y ∧ Rt w A P L c K d w1) (b : Below w1.heap.size w1 w2) : w2.cell? ⟨w.heap.size, 0, none⟩ = some (.slice A L c) ∧ w2.cell? ⟨w.heap.size, 1, none⟩ = some (.slice P K d) ∧ w2.cell? ⟨g, o1, none⟩ = some x ∧ w2.cell? ⟨g, o2, none⟩ = some y ∧ Rt w A P L c K d w2 := by
  obtain ⟨_, _, h1, h2, h3⟩ := h
  have h4 := h3.keep b
  have hl := Nat.lt_of_lt_of_le hg h3.bel.size
  exact ⟨h4.box.use.1, h4.box.use.2.1, (b.cell (p := ⟨g, o1, none⟩) hl).trans h1, (b.cell (p := ⟨g, o2, none⟩) hl).trans h2, h4⟩

set_option maxRecDepth 100000 in
set_option maxHeartbeats 4000000 in
theorem rright_at (A P : Option Addr) (L c K d : Nat) (m : PM) (w : World) (HM : Hid (IsMem w (.agg #[.slice A L c, .slice P K d]) m)) :
    Calls Tryz.prog 58 #[.agg #[.slice A L c, .slice P K d]] w fun e w' => e = .returned (.bool (rightB m)) ∧ Below w.heap.size w w' := by
  have hbig := HM.out.big
  unfold maxLen at hbig
  obtain ⟨hL, hK⟩ := hbig
  have H := Lib.hid (rightB_eq m L HM.out.len1)
  obtain ⟨R, hR⟩ : ∃ R, rightB m = R := ⟨_, rfl⟩
  rw [hR] at H ⊢
  clear hR
  go_enter Tryz.func58, Tryz.ntmps58
  go_wp2
  go_loopw [3] (fun i wr => ∃ j : Nat, j ≤ K ∧ i = .int .i64 (j : Int) ∧ Hid ((m.2.take j).all (rightP L) = true) ∧ Rt w A P L c K d wr) (fun i _ => K - (intOf i).toNat)
  case atStart => exact ⟨0, Nat.zero_le _, rfl, by simp [Hid], rt_new _ _ _ _ _ _ _⟩
  case round =>
    obtain ⟨j, hj, rfl, hall, hrt⟩ := hrel
    by_cases hlt : j < K
    · obtain ⟨g, o, B, n, e, p, rfl, hg, hp, hc1, hc2, hby, hn, hKd⟩ := mem_patch HM.out hlt
      have hd1 : wr.cell? ⟨g, o + j * 2, none⟩ = some (.int .i64 p.1) := (hrt.bel.cell (p := ⟨g, o + j * 2, none⟩) hg).trans hc1
      have hd2 : wr.cell? ⟨g, o + j * 2 + 1, none⟩ = some (.slice B n e) := (hrt.bel.cell (p := ⟨g, o + j * 2 + 1, none⟩) hg).trans hc2
      obtain ⟨q0, q1, _, _⟩ := hrt.box.use
      have hlt1 := hrt.box.lt
      have HP := Lib.hid hp
      have HR : Hid (rightP L p = okB L p.1 n) := by unfold rightP; rw [hby.len]; rfl
      obtain ⟨p1, hp1⟩ : ∃ p1, p.1 = p1 := ⟨_, rfl⟩
      rw [hp1] at hd1 HR
      have CT : Hid (∀ w1, Calls Tryz.prog 98 #[.agg #[.slice A L c, .slice (some ⟨g, o, none⟩) K d], .int .i64 p1, .int .i64 (n : Int)] w1 fun e w' => e = .returned (.bool (okB L p1 n)) ∧ Below w1.heap.size w1 w') := fun w1 => rthere_any _ _ _ _ _ _ _ _ _ (by omega) (by unfold maxLen at hn; omega)
      unfold maxLen at hn
      have hji : (j : Int) < (K : Int) := by omega
      clear hp hby hc1 hc2 hp1
      cases ok : okB L p1 n with
      | true =>
        have HA : Hid ((m.2.take (j + 1)).all (rightP L) = true) := by rw [all_take_step HP.out, hall.out, HR.out, ok]; rfl
        rw [ok] at CT
        go_wp2_with fail
        refine wp_region_noPanic ?_
        go_region_held3 (fun w' => w'.cell? ⟨w.heap.size, 0, none⟩ = some (.slice A L c) ∧ w'.cell? ⟨w.heap.size, 1, none⟩ = some (.slice (some ⟨g, o, none⟩) K d) ∧ w'.cell? ⟨g, o + j * 2, none⟩ = some (.int .i64 p1) ∧ w'.cell? ⟨g, o + j * 2 + 1, none⟩ = some (.slice B n e) ∧ Rt w A (some ⟨g, o, none⟩) L c K d w') (first | assumption | exact rtS hrt hd1 hd2)
          (first | (go_at_call 98; ((with_reducible refine (CT.out _).mono ?_); rintro e w2 ⟨rfl, b2⟩; have s2 := rtK hg (by assumption) b2)))
        all_goals (refine NoPanic.normal ?_)
        have HRT2 := Lib.hid s2.2.2.2.2
        clear s2 b2 q0 q1 hd1 hd2 hrt
        go_wp2
        go_roundw
        case rel => exact ⟨j + 1, by omega, by go_num, HA.out, HRT2.out⟩
        case measure => simp [intOf]; omega
      | false =>
        have HA : Hid (m.2.all (rightP L) = false) := all_no HP.out (by rw [HR.out, ok])
        rw [ok] at CT
        go_wp2_with fail
        refine wp_region_noPanic ?_
        go_region_held3 (fun w' => w'.cell? ⟨w.heap.size, 0, none⟩ = some (.slice A L c) ∧ w'.cell? ⟨w.heap.size, 1, none⟩ = some (.slice (some ⟨g, o, none⟩) K d) ∧ w'.cell? ⟨g, o + j * 2, none⟩ = some (.int .i64 p1) ∧ w'.cell? ⟨g, o + j * 2 + 1, none⟩ = some (.slice B n e) ∧ Rt w A (some ⟨g, o, none⟩) L c K d w') (first | assumption | exact rtS hrt hd1 hd2)
          (first | (go_at_call 98; ((with_reducible refine (CT.out _).mono ?_); rintro e w2 ⟨rfl, b2⟩; have s2 := rtK hg (by assumption) b2)))
        all_goals (refine NoPanic.normal ?_)
        have HRT2 := Lib.hid s2.2.2.2.2
        clear s2 b2 q0 q1 hd1 hd2 hrt
        go_wp2
        go_ret
        exact ⟨ret_bool (by rw [H.out, HA.out]; simp), HRT2.out.bel⟩
    · have hjk : j = K := by omega
      subst hjk
      have hl := HM.out.len2
      have HR : Hid (R = (decide (L ≤ 65536) && decide (L % 8 = 0))) := by
        have := hall.out
        rw [List.take_of_length_le (by omega)] at this
        rw [H.out, this, Bool.and_true]
        rfl
      have HRT := Lib.hid hrt
      obtain ⟨q0, q1, _, _⟩ := hrt.box.use
      clear hl hrt
      by_cases h1 : L ≤ 65536
      · have h1' : (L : Int) ≤ 65536 := by omega
        by_cases h2 : L % 8 = 0
        · have h2' : ((L : Int) % 8 == 0) = true := by simp; omega
          have HE : Hid (R = true) := by rw [HR.out, decide_eq_true h1, decide_eq_true h2]; rfl
          clear h1 h2
          go_wp2
          go_ret
          exact ⟨ret_bool HE.out.symm, HRT.out.bel⟩
        · have h2' : ((L : Int) % 8 == 0) = false := by simp; omega
          have HE : Hid (R = false) := by rw [HR.out, decide_eq_false h2]; simp [Hid]
          clear h1 h2
          go_wp2
          go_ret
          exact ⟨ret_bool HE.out.symm, HRT.out.bel⟩
      · have h1' : decide ((L : Int) ≤ 65536) = false := by simp; omega
        have HE : Hid (R = false) := by rw [HR.out, decide_eq_false h1]; rfl
        clear h1
        go_wp2
        go_ret
        exact ⟨ret_bool HE.out.symm, HRT.out.bel⟩

end Go.Proofs.YtbighilgkmfemaaGreatDoor

/- Contracts of bytes.Equal, samePatch, slices.EqualFunc and Same. -/
namespace Go.Proofs.YtbighilgkmfemaaGreatDoor
open Go.RowKit

/-- Bytes as a string. -/
def strB (l : List UInt8) : ByteArray := ⟨l.toArray⟩
theorem strB_inj {a b : List UInt8} (h : strB a = strB b) : a = b := by
  have : a.toArray = b.toArray := congrArg ByteArray.data h
  simpa using this
theorem str_ne {a b : ByteArray} (h : a ≠ b) : (a.toList == b.toList) = false := by
  rw [beq_eq_false_iff_ne]
  intro e
  rw [ByteArray.toList_eq, ByteArray.toList_eq] at e
  apply h
  cases a
  cases b
  congr 1
  exact Array.toList_inj.1 e
theorem Byt.conv {w : World} {A : Option Addr} {n c : Nat} {l : List UInt8} (h : Byt w (.slice A n c) l) : (convert 24 9 (.slice A n c)).run Tryz.prog w = .ok (.string (strB l)) w := by
  have hl := h.len
  subst hl
  rcases h.lies with e | ⟨g, o, rfl, _, hc⟩
  · have : l = [] := by
      have := congrArg List.length e
      rw [u8s_len] at this
      exact List.eq_nil_of_length_eq_zero this
    subst this
    rw [run_convert_bytes_string w 24 9 5 _ _ _ Tryz.underlying24 Tryz.underlying5 Tryz.underlying9]
    cases A <;> simp [Conv.bytesToString, loadCells, strB]
    all_goals rfl
  · refine run_convert_bytes_back w 24 9 5 ⟨g, o, none⟩ c l Tryz.underlying24 Tryz.underlying5 Tryz.underlying9 fun j hj => ?_
    rw [add_at]
    exact hc j _ (u8s_at hj)

set_option maxRecDepth 100000 in
set_option maxHeartbeats 1000000 in
theorem equal_any (A B : Option Addr) (n c k d : Nat) (l1 l2 : List UInt8) (w : World) (h1 : Byt w (.slice A n c) l1) (h2 : Byt w (.slice B k d) l2) :
    Calls Tryz.prog 67 #[.slice A n c, .slice B k d] w fun e w' => e = .returned (.bool (decide (l1 = l2))) ∧ w = w' := by
  have c1 := h1.conv
  have c2 := h2.conv
  have HD : Hid (l1 = l2 ↔ strB l1 = strB l2) := ⟨fun h => by rw [h], strB_inj⟩
  clear h1 h2
  by_cases he : l1 = l2
  · subst he
    have HE : Hid (decide (l1 = l1) = true) := by simp [Hid]
    generalize strB l1 = s at c1 c2
    clear HD
    go_enter Tryz.func67, Tryz.ntmps67
    go_wp2
    go_ret
    exact ⟨ret_bool HE.out.symm, rfl⟩
  · have HE : Hid (decide (l1 = l2) = false) := decide_eq_false he
    have hne : strB l1 ≠ strB l2 := fun h => he (strB_inj h)
    generalize strB l1 = s1 at c1 hne
    generalize strB l2 = s2 at c2 hne
    have hne' := str_ne hne
    clear HD he hne
    go_enter Tryz.func67, Tryz.ntmps67
    go_wp2
    go_ret
    exact ⟨ret_bool HE.out.symm, rfl⟩

set_option maxRecDepth 100000 in
set_option maxHeartbeats 1000000 in
theorem samePatch_any (a b : Int) (A B : Option Addr) (n c k d : Nat) (l1 l2 : List UInt8) (w : World) (h1 : Hid (Byt w (.slice A n c) l1)) (h2 : Hid (Byt w (.slice B k d) l2)) :
    Calls Tryz.prog 101 #[.agg #[.int .i64 a, .slice A n c], .agg #[.int .i64 b, .slice B k d]] w fun e w' => e = .returned (.bool (decide ((a, l1) = (b, l2)))) ∧ Below w.heap.size w w' := by
  by_cases he : a = b
  · subst he
    have HD : Hid (decide ((a, l1) = (a, l2)) = decide (l1 = l2)) := by simp [Hid]
    rw [HD.out]
    obtain ⟨R, hR⟩ : ∃ R, decide (l1 = l2) = R := ⟨_, rfl⟩
    rw [hR]
    have HR := Lib.hid hR
    clear HD hR
    go_enter Tryz.func101, Tryz.ntmps101
    go_wp2_with fail
    have b2 := ((Below.refl w.heap.size w).alloc (Nat.le_refl _) (.cells #[.int .i64 a, .slice A n c] 113)).alloc (by simp) (.cells #[.int .i64 a, .slice B k d] 113)
    refine (equal_any _ _ _ _ _ _ l1 l2 _ (h1.out.keep b2) (h2.out.keep b2)).mono ?_
    rw [HR.out]
    rintro e w1 ⟨rfl, rfl⟩
    have HB := Lib.hid b2
    clear b2
    go_wp2_with fail
    go_ret
    exact ⟨rfl, HB.out⟩
  · have HD : Hid (decide ((a, l1) = (b, l2)) = false) := decide_eq_false (by simp [he])
    have he' : (a == b) = false := by simp [he]
    clear he h1 h2
    go_enter Tryz.func101, Tryz.ntmps101
    go_wp2
    go_ret
    exact ⟨ret_bool HD.out.symm, ((Below.refl _ _).alloc (Nat.le_refl _) _).alloc (by simp) _⟩

theorem take_eq_step {α : Type} {a b : List α} {j : Nat} {p q : α} (h : a.take j = b.take j) (hp : a[j]? = some p) (hq : b[j]? = some q) (e : p = q) : a.take (j + 1) = b.take (j + 1) := by
  have h1 := (List.getElem?_eq_some_iff.1 hp)
  have h2 := (List.getElem?_eq_some_iff.1 hq)
  obtain ⟨i1, e1⟩ := h1
  obtain ⟨i2, e2⟩ := h2
  rw [List.take_succ_eq_append_getElem i1, List.take_succ_eq_append_getElem i2, h, e1, e2, e]
theorem pats_len {w : World} {P : Option Addr} {K d : Nat} {ps : List Pt} (h : Pats w (.slice P K d) ps) : ps.length = K ∧ K ≤ maxLen := by
  obtain ⟨_, _, _, e, h1, h2, _⟩ := h
  injection e with _ e _
  omega

set_option maxRecDepth 100000 in
set_option maxHeartbeats 4000000 in
theorem equalFunc_any (P P2 : Option Addr) (K d K2 d2 : Nat) (ps qs : List Pt) (w : World) (h1 : Hid (Pats w (.slice P K d) ps)) (h2 : Hid (Pats w (.slice P2 K2 d2) qs)) :
    Calls Tryz.prog 100 #[.slice P K d, .slice P2 K2 d2, .func (.func 101) #[] #[]] w fun e w' => e = .returned (.bool (decide (ps = qs))) ∧ Below w.heap.size w w' := by
  have hk1 := (pats_len h1.out).2
  have hk2 := (pats_len h2.out).2
  unfold maxLen at hk1 hk2
  obtain ⟨R, hR⟩ : ∃ R, decide (ps = qs) = R := ⟨_, rfl⟩
  rw [hR]
  have HR := Lib.hid hR
  clear hR
  by_cases hK : K = K2
  · subst hK
    go_enter Tryz.func100, Tryz.ntmps100
    go_wp2
    go_loopw [17] (fun i wr => ∃ j : Nat, j ≤ K ∧ i = .int .i64 (j : Int) ∧ Hid (ps.take j = qs.take j) ∧ Below w.heap.size w wr) (fun i _ => K - (intOf i).toNat)
    case atStart => exact ⟨0, Nat.zero_le _, rfl, by simp [Hid], Below.refl _ _⟩
    case round =>
      obtain ⟨j, hj, rfl, hall, hb⟩ := hrel
      by_cases hlt : j < K
      · obtain ⟨g, o, B, n, e, p, rfl, hg, hp, hc1, hc2, hby, hn, hKd⟩ := mem_patch (mem_mk (m := ([], ps)) (byt_nil w) h1.out) hlt
        obtain ⟨g', o', B', n', e', p', rfl, hg', hp', hc1', hc2', hby', hn', hKd'⟩ := mem_patch (mem_mk (m := ([], qs)) (byt_nil w) h2.out) hlt
        have d1 : wr.cell? ⟨g, o + j * 2, none⟩ = some (.int .i64 p.1) := (hb.cell (p := ⟨g, o + j * 2, none⟩) hg).trans hc1
        have d2 : wr.cell? ⟨g, o + j * 2 + 1, none⟩ = some (.slice B n e) := (hb.cell (p := ⟨g, o + j * 2 + 1, none⟩) hg).trans hc2
        have d3 : wr.cell? ⟨g', o' + j * 2, none⟩ = some (.int .i64 p'.1) := (hb.cell (p := ⟨g', o' + j * 2, none⟩) hg').trans hc1'
        have d4 : wr.cell? ⟨g', o' + j * 2 + 1, none⟩ = some (.slice B' n' e') := (hb.cell (p := ⟨g', o' + j * 2 + 1, none⟩) hg').trans hc2'
        have hl1 := Nat.lt_of_lt_of_le hg hb.size
        have hl2 := Nat.lt_of_lt_of_le hg' hb.size
        have HY := Lib.hid hby
        have HY' := Lib.hid hby'
        have HP := Lib.hid hp
        have HP' := Lib.hid hp'
        have HB := Lib.hid hb
        have hji : (j : Int) < (K : Int) := by omega
        clear hby hby' hp hp' hc1 hc2 hc1' hc2' hb
        go_wp2_with fail
        refine (samePatch_any _ _ _ _ _ _ _ _ p.2 p'.2 _ (HY.out.keep ((HB.out.alloc HB.out.size _).alloc (by have := HB.out.size; simp; omega) _)) (HY'.out.keep ((HB.out.alloc HB.out.size _).alloc (by have := HB.out.size; simp; omega) _))).mono ?_
        by_cases hpp : p = p'
        · rw [decide_eq_true (show (p.1, p.2) = (p'.1, p'.2) from hpp)]
          rintro e w2 ⟨rfl, b2⟩
          have HA : Hid (ps.take (j + 1) = qs.take (j + 1)) := take_eq_step hall.out HP.out HP'.out hpp
          have HB2 := Lib.hid (HB.out.trans ((below_two b2).mono HB.out.size))
          clear b2 d1 d2 d3 d4 hpp
          go_wp2_with fail
          go_roundw
          case rel => exact ⟨j + 1, by omega, by go_num, HA.out, HB2.out⟩
          case measure => simp [intOf]; omega
        · rw [decide_eq_false (show ¬ (p.1, p.2) = (p'.1, p'.2) from hpp)]
          rintro e w2 ⟨rfl, b2⟩
          have HA : Hid (R = false) := by
            rw [← HR.out, decide_eq_false_iff_not]
            intro e
            have x1 : ps[j]? = some p := HP.out
            have x2 : qs[j]? = some p' := HP'.out
            rw [e, x2] at x1
            injection x1 with x1
            exact hpp x1.symm
          have HB2 := Lib.hid (HB.out.trans ((below_two b2).mono HB.out.size))
          clear b2 d1 d2 d3 d4 hpp
          go_wp2_with fail
          go_ret
          exact ⟨ret_bool HA.out.symm, HB2.out⟩
      · have hjk : j = K := by omega
        subst hjk
        have HA : Hid (R = true) := by
          have x1 := (pats_len h1.out).1
          have x2 := (pats_len h2.out).1
          have x3 := hall.out
          rw [List.take_of_length_le (by omega), List.take_of_length_le (by omega)] at x3
          rw [← HR.out, decide_eq_true x3]
          rfl
        have HB := Lib.hid hb
        clear hb
        go_wp2
        go_ret
        exact ⟨ret_bool HA.out.symm, HB.out⟩
  · have HA : Hid (R = false) := by
      rw [← HR.out, decide_eq_false_iff_not]
      intro e
      have x1 := (pats_len h1.out).1
      have x2 := (pats_len h2.out).1
      rw [e] at x1
      omega
    have hK' : ((K : Int) != (K2 : Int)) = true := by simp; omega
    clear hK
    go_enter Tryz.func100, Tryz.ntmps100
    go_wp2
    go_ret
    exact ⟨ret_bool HA.out.symm, Below.refl _ _⟩
end Go.Proofs.YtbighilgkmfemaaGreatDoor

/- What the calls of package num answer, as plain functions, by the document's own words. -/
namespace Go.Proofs.YtbighilgkmfemaaGreatDoor
open Go.RowKit
set_option linter.unusedVariables false
set_option linter.unusedSimpArgs false

/-- A digit's sign. -/
def digN (n : Nat) : Nat := if n ≤ 9 then 48 + n else if n ≤ 35 then 55 + n else 63
def baseB (b : Int) : Bool := decide (2 ≤ b ∧ b ≤ 36)
theorem baseB_iff (b : Int) : baseB b = true ↔ (2 ≤ b ∧ b ≤ 36) := by unfold baseB; simp
/-- A number in digits. -/
def usF (b u : Nat) : List UInt8 :=
  if h : 2 ≤ b ∧ b ≤ u then usF b (u / b) ++ [UInt8.ofNat (digN (u % b))] else [UInt8.ofNat (digN u)]
termination_by u
decreasing_by exact Nat.div_lt_self (by omega) (by omega)
theorem usF_big {b u : Nat} (h2 : 2 ≤ b) (h : b ≤ u) : usF b u = usF b (u / b) ++ [UInt8.ofNat (digN (u % b))] := by
  rw [usF, dif_pos ⟨h2, h⟩]
theorem usF_low {b u : Nat} (h : u < b) : usF b u = [UInt8.ofNat (digN u)] := by
  rw [usF, dif_neg (by omega)]
end Go.Proofs.YtbighilgkmfemaaGreatDoor

/- Plain facts on numbers as texts: what is shown is read. -/
namespace Go.Proofs.YtbighilgkmfemaaGreatDoor
open Go.RowKit
set_option linter.unusedVariables false
set_option linter.unusedSimpArgs false

theorem w64_id {n : Int} (h0 : -9223372036854775808 ≤ n) (h1 : n ≤ 9223372036854775807) : wrap64 n = n := IntWalk.wrap64_in n ⟨h0, h1⟩
theorem us_ne {b u : Nat} : usF b u ≠ [] := by
  rw [usF]
  split <;> simp
end Go.Proofs.YtbighilgkmfemaaGreatDoor

/- Texts as values: their bytes, one by one, and put together. -/
namespace Go.Proofs.YtbighilgkmfemaaGreatDoor
open Go.RowKit
set_option linter.unusedVariables false
set_option linter.unusedSimpArgs false

theorem strB_of (s : ByteArray) : strB s.data.toList = s := by
  cases s
  simp [strB]
theorem strB_size (l : List UInt8) : (strB l).size = l.length := rfl
theorem strB_app (a b : List UInt8) : strB a ++ strB b = strB (a ++ b) := by
  apply ByteArray.ext
  simp [strB, ByteArray.data_append]
theorem run_ix (l : List UInt8) (i : Nat) (h : i < l.length) (w : World) :
    (Instr.index 9 (.string (strB l)) (.int .i64 (i : Int))).run Tryz.prog w = .ok (.int .u8 ((l[i]).toNat : Int)) w := by
  have e : (strB l)[i]? = some l[i] := by
    have hs : i < (strB l).size := h
    rw [getElem?_pos (strB l) i hs]
    rfl
  simp [Instr.index, run_underlying Tryz.underlying9, asIntOf, e]
theorem one_newN (w1 : World) (b : Array Value) (t : TypeId) : (w1.alloc (.cells b t)).heap[w1.heap.size]? = some (.cells b t (0, 0)) := by
  show (w1.heap.push _)[w1.heap.size]? = _
  exact Array.getElem?_push_size
theorem conv_one (x : UInt8) (w : World) : (convert 24 9 (.slice (some ⟨w.heap.size, 0, none⟩) 1 1)).run Tryz.prog (w.alloc (.cells #[.int .u8 (x.toNat : Int)] 5)) = .ok (.string (strB [x])) (w.alloc (.cells #[.int .u8 (x.toNat : Int)] 5)) := by
  refine run_convert_bytes_back (w.alloc (.cells #[.int .u8 (x.toNat : Int)] 5)) 24 9 5 ⟨w.heap.size, 0, none⟩ 1 [x] Tryz.underlying24 Tryz.underlying5 Tryz.underlying9 fun j hj => ?_
  have h0 : j = 0 := by simp at hj; omega
  subst h0
  have h := one_newN w #[.int .u8 (x.toNat : Int)] 5
  rw [show (⟨w.heap.size, 0, none⟩ : Addr).add 0 = ⟨w.heap.size, 0, none⟩ from by simp [Addr.add]]
  unfold World.cell?
  rw [h]
  rfl
end Go.Proofs.YtbighilgkmfemaaGreatDoor

/- Contracts of Same, of package mem and of the document. -/
namespace Go.Proofs.YtbighilgkmfemaaGreatDoor
open Go.RowKit

/-- A frame with two memories in two blocks. -/
def R2 (w : World) (A P A' P' : Option Addr) (L c K d L' c' K' d' : Nat) (w' : World) : Prop := Below w.heap.size w w' ∧ Box w' w.heap.size (.slice A L c) (.slice P K d) 27 ∧ Box w' (w.heap.size + 1) (.slice A' L' c') (.slice P' K' d') 27
theorem R2.bel {w w1 : World} {A P A' P' : Option Addr} {L c K d L' c' K' d' : Nat} (h : R2 w A P A' P' L c K d L' c' K' d' w1) : Below w.heap.size w w1 := h.1
theorem R2.one {w w1 : World} {A P A' P' : Option Addr} {L c K d L' c' K' d' : Nat} (h : R2 w A P A' P' L c K d L' c' K' d' w1) : Box w1 w.heap.size (.slice A L c) (.slice P K d) 27 := h.2.1
theorem R2.two {w w1 : World} {A P A' P' : Option Addr} {L c K d L' c' K' d' : Nat} (h : R2 w A P A' P' L c K d L' c' K' d' w1) : Box w1 (w.heap.size + 1) (.slice A' L' c') (.slice P' K' d') 27 := h.2.2
theorem R2.keep {w w1 w2 : World} {A P A' P' : Option Addr} {L c K d L' c' K' d' : Nat} (h : R2 w A P A' P' L c K d L' c' K' d' w1) (b : Below w1.heap.size w1 w2) : R2 w A P A' P' L c K d L' c' K' d' w2 := ⟨below_then h.1 b, h.2.1.keep b, h.2.2.keep b⟩
theorem r2_new (w : World) (A P A' P' : Option Addr) (L c K d L' c' K' d' : Nat) : R2 w A P A' P' L c K d L' c' K' d' ((w.alloc (.cells #[.slice A L c, .slice P K d] 27)).alloc (.cells #[.slice A' L' c', .slice P' K' d'] 27)) :=
  ⟨((Below.refl _ _).alloc (Nat.le_refl _) _).alloc (by simp) _, (box_two w _ _ _ _ _ _).1, (box_two w _ _ _ _ _ _).2⟩

theorem pm_eq (m o : PM) : decide (m = o) = (decide (m.1 = o.1) && decide (m.2 = o.2)) := by
  obtain ⟨a, b⟩ := m
  obtain ⟨c, d⟩ := o
  rw [← Bool.decide_and]
  simp

set_option maxRecDepth 100000 in
set_option maxHeartbeats 2000000 in
theorem same_at (A P A' P' : Option Addr) (L c K d L' c' K' d' : Nat) (m o : PM) (w : World) (HM : Hid (IsMem w (.agg #[.slice A L c, .slice P K d]) m)) (HO : Hid (IsMem w (.agg #[.slice A' L' c', .slice P' K' d']) o)) :
    Calls Tryz.prog 62 #[.agg #[.slice A L c, .slice P K d], .agg #[.slice A' L' c', .slice P' K' d']] w fun e w' => e = .returned (.bool (decide (m = o))) ∧ Below w.heap.size w w' := by
  have R0 := Lib.hid (r2_new w A P A' P' L c K d L' c' K' d')
  cases h1 : decide (m.1 = o.1) with
  | false =>
    have HD : Hid (decide (m = o) = false) := by rw [pm_eq, h1]; rfl
    go_enter Tryz.func62, Tryz.ntmps62
    go_wp2_with fail
    refine (equal_any _ _ _ _ _ _ m.1 o.1 _ (HM.out.keep R0.out.bel).byt (HO.out.keep R0.out.bel).byt).mono ?_
    rw [h1]
    rintro e w1 ⟨rfl, rfl⟩
    go_wp2_with fail
    go_ret
    exact ⟨ret_bool HD.out.symm, R0.out.bel⟩
  | true =>
    obtain ⟨R, hR⟩ : ∃ R, decide (m.2 = o.2) = R := ⟨_, rfl⟩
    have HD : Hid (decide (m = o) = R) := by rw [pm_eq, h1, hR]; rfl
    have HR := Lib.hid hR
    clear hR
    go_enter Tryz.func62, Tryz.ntmps62
    go_wp2_with fail
    refine (equal_any _ _ _ _ _ _ m.1 o.1 _ (HM.out.keep R0.out.bel).byt (HO.out.keep R0.out.bel).byt).mono ?_
    rw [h1]
    rintro e w1 ⟨rfl, rfl⟩
    go_wp2_with fail
    refine (equalFunc_any _ _ _ _ _ _ m.2 o.2 _ (HM.out.keep R0.out.bel).pats (HO.out.keep R0.out.bel).pats).mono ?_
    rw [HR.out]
    rintro e w2 ⟨rfl, b2⟩
    have R1 := Lib.hid (R0.out.keep b2)
    clear b2
    go_wp2_with fail
    go_ret
    exact ⟨ret_bool HD.out.symm, R1.out.bel⟩
end Go.Proofs.YtbighilgkmfemaaGreatDoor

/- The document's own Same. -/
namespace Go.Proofs.YtbighilgkmfemaaGreatDoor
open Go.RowKit

theorem R2.drewN {w w1 : World} {A P A' P' : Option Addr} {L c K d L' c' K' d' : Nat} (h : R2 w A P A' P' L c K d L' c' K' d' w1) (i : Nat) : R2 w A P A' P' L c K d L' c' K' d' (w1.drewN i) := ⟨h.1.trans (Go.Joins.below_draws _ _ _), h.2.1, h.2.2⟩
theorem str_neq {a b : ByteArray} (h : a ≠ b) : (a.toList != b.toList) = true := by rw [bne, str_ne h]; rfl
theorem Byt.drewN {w : World} {v : Value} {l : List UInt8} (h : Byt w v l) (i : Nat) : Byt (w.drewN i) v l := h

set_option maxRecDepth 100000 in
set_option maxHeartbeats 4000000 in
theorem rsame_at (A P A' P' : Option Addr) (L c K d L' c' K' d' : Nat) (m o : PM) (w : World) (HM : Hid (IsMem w (.agg #[.slice A L c, .slice P K d]) m)) (HO : Hid (IsMem w (.agg #[.slice A' L' c', .slice P' K' d']) o)) :
    Calls Tryz.prog 46 #[.agg #[.slice A L c, .slice P K d], .agg #[.slice A' L' c', .slice P' K' d']] w fun e w' => e = .returned (.bool (decide (m = o))) ∧ Below w.heap.size w w' := by
  have R0 := Lib.hid (r2_new w A P A' P' L c K d L' c' K' d')
  have hk1 := HM.out.big.2
  have hk2 := HO.out.big.2
  unfold maxLen at hk1 hk2
  have c1 := (HM.out.keep R0.out.bel).byt.conv
  have c2 := (HO.out.keep R0.out.bel).byt.conv
  have hz1 : w.heap.size < w.heap.size + 1 := by omega
  obtain ⟨R, hR⟩ : ∃ R, decide (m = o) = R := ⟨_, rfl⟩
  rw [hR]
  have HR := Lib.hid hR
  clear hR
  by_cases h1 : m.1 = o.1
  · rw [h1] at c1
    obtain ⟨s, hs⟩ : ∃ s, strB o.1 = s := ⟨_, rfl⟩
    rw [hs] at c1 c2
    have HR2 : Hid (R = decide (m.2 = o.2)) := by rw [← HR.out, pm_eq, decide_eq_true h1]; rfl
    clear hs
    by_cases hK : K = K'
    · subst hK
      have hKK : ((K : Int) != (K : Int)) = false := by simp
      clear h1
      go_enter Tryz.func46, Tryz.ntmps46
      go_wp2
      clear c1 c2
      go_loopw [5] (fun i wr => ∃ j : Nat, j ≤ K ∧ i = .int .i64 (j : Int) ∧ Hid (m.2.take j = o.2.take j) ∧ R2 w A P A' P' L c K d L' c' K d' wr) (fun i _ => K - (intOf i).toNat)
      case atStart => exact ⟨0, Nat.zero_le _, rfl, by simp [Hid], R0.out⟩
      case round =>
        obtain ⟨j, hj, rfl, hall, hr2⟩ := hrel
        by_cases hlt : j < K
        · obtain ⟨g, o1, B, n, e, p, rfl, hg, hp, hc1, hc2, hby, hn, hKd⟩ := mem_patch HM.out hlt
          obtain ⟨g', o1', B', n', e', p', rfl, hg', hp', hc1', hc2', hby', hn', hKd'⟩ := mem_patch HO.out hlt
          have d1 : wr.cell? ⟨g, o1 + j * 2, none⟩ = some (.int .i64 p.1) := (hr2.bel.cell (p := ⟨g, o1 + j * 2, none⟩) hg).trans hc1
          have d2 : wr.cell? ⟨g, o1 + j * 2 + 1, none⟩ = some (.slice B n e) := (hr2.bel.cell (p := ⟨g, o1 + j * 2 + 1, none⟩) hg).trans hc2
          have d3 : wr.cell? ⟨g', o1' + j * 2, none⟩ = some (.int .i64 p'.1) := (hr2.bel.cell (p := ⟨g', o1' + j * 2, none⟩) hg').trans hc1'
          have d4 : wr.cell? ⟨g', o1' + j * 2 + 1, none⟩ = some (.slice B' n' e') := (hr2.bel.cell (p := ⟨g', o1' + j * 2 + 1, none⟩) hg').trans hc2'
          obtain ⟨q0, q1, _, _⟩ := hr2.one.use
          obtain ⟨q2, q3, _, _⟩ := hr2.two.use
          have v1 := fun i => ((hby.keep hr2.bel).drewN i).conv
          have v2 := fun i => ((hby'.keep hr2.bel).drewN i).conv
          have HP := Lib.hid hp
          have HP' := Lib.hid hp'
          have HRR := Lib.hid hr2
          have hji : (j : Int) < (K : Int) := by omega
          obtain ⟨a1, ha1⟩ : ∃ a1, p.1 = a1 := ⟨_, rfl⟩
          obtain ⟨a2, ha2⟩ : ∃ a2, p'.1 = a2 := ⟨_, rfl⟩
          rw [ha1] at d1
          rw [ha2] at d3
          have HA1 := Lib.hid ha1
          have HA2 := Lib.hid ha2
          clear hby hby' hp hp' hc1 hc2 hc1' hc2' hr2 ha1 ha2
          by_cases ha : a1 = a2
          · subst ha
            have hab : (a1 != a1) = false := by simp
            by_cases hs : p.2 = p'.2
            · rw [hs] at v1
              generalize strB p'.2 = t at v1 v2
              go_wp2_with fail
              go_quiet (fail)
              have HA : Hid (m.2.take (j + 1) = o.2.take (j + 1)) := take_eq_step hall.out HP.out HP'.out (by
                obtain ⟨x, y⟩ := p
                obtain ⟨x', y'⟩ := p'
                have h1 := HA1.out
                have h2 := HA2.out
                simp only at h1 h2
                simp only at hs
                rw [h1, h2, hs])
              have HF := fun i => HRR.out.drewN i
              have HFF := Lib.hid HF
              clear HF v1 v2 d1 d2 d3 d4 q0 q1 q2 q3
              go_wp2
              go_roundw
              case rel => exact ⟨j + 1, by omega, by go_num, HA.out, HFF.out _⟩
              case measure => simp [intOf]; omega
            · have HA : Hid (R = false) := by
                rw [HR2.out, decide_eq_false_iff_not]
                intro e
                have x1 := HP.out
                rw [e, HP'.out] at x1
                injection x1 with x1
                rw [x1] at hs
                exact hs rfl
              have hne : strB p.2 ≠ strB p'.2 := fun h => hs (strB_inj h)
              generalize strB p.2 = t1 at v1 hne
              generalize strB p'.2 = t2 at v2 hne
              have hne' := str_neq hne
              have hne2 := str_ne hne
              clear hs hne
              go_wp2_with fail
              go_quiet (fail)
              have HF := fun i => HRR.out.drewN i
              have HFF := Lib.hid HF
              clear HF v1 v2 d1 d2 d3 d4 q0 q1 q2 q3
              go_wp2
              go_ret
              exact ⟨ret_bool HA.out.symm, (HFF.out _).bel⟩
          · have hab : (a1 != a2) = true := by simp [ha]
            have HA : Hid (R = false) := by
              rw [HR2.out, decide_eq_false_iff_not]
              intro e
              have x1 := HP.out
              rw [e, HP'.out] at x1
              injection x1 with x1
              rw [x1] at HA2
              exact ha (HA1.out.symm.trans HA2.out)
            clear ha
            go_wp2_with fail
            go_quiet (fail)
            have HF := fun i => HRR.out.drewN i
            have HFF := Lib.hid HF
            clear HF v1 v2 d1 d2 d3 d4 q0 q1 q2 q3
            go_wp2
            go_ret
            exact ⟨ret_bool HA.out.symm, (HFF.out _).bel⟩
        · have hjk : j = K := by omega
          subst hjk
          have HA : Hid (R = true) := by
            have x1 := HM.out.len2
            have x2 := HO.out.len2
            have x3 := hall.out
            rw [List.take_of_length_le (by omega), List.take_of_length_le (by omega)] at x3
            rw [HR2.out, decide_eq_true x3]
            rfl
          obtain ⟨q0, q1, _, _⟩ := hr2.one.use
          have HRR := Lib.hid hr2
          clear hr2
          go_wp2
          go_ret
          exact ⟨ret_bool HA.out.symm, HRR.out.bel⟩
    · have HA : Hid (R = false) := by
        rw [HR2.out, decide_eq_false_iff_not]
        intro e
        have x1 := HM.out.len2
        have x2 := HO.out.len2
        rw [e] at x1
        omega
      have hKK : ((K : Int) != (K' : Int)) = true := by simp; omega
      clear h1 hK
      go_enter Tryz.func46, Tryz.ntmps46
      go_wp2
      go_ret
      exact ⟨ret_bool HA.out.symm, R0.out.bel⟩
  · have HA : Hid (R = false) := by rw [← HR.out, pm_eq, decide_eq_false h1]; rfl
    have hne : strB m.1 ≠ strB o.1 := fun h => h1 (strB_inj h)
    generalize strB m.1 = t1 at c1 hne
    generalize strB o.1 = t2 at c2 hne
    have hne' := str_neq hne
    have hne2 := str_ne hne
    clear h1 hne
    go_enter Tryz.func46, Tryz.ntmps46
    go_wp2
    go_ret
    exact ⟨ret_bool HA.out.symm, R0.out.bel⟩
end Go.Proofs.YtbighilgkmfemaaGreatDoor

/- The head of all statements of layer 3: the document's examples come out. -/
namespace Go.Proofs.YtbighilgkmfemaaGreatDoor
open Go.RowKit

def sm : PM := newF 16
def sx : PM := storeF sm 8 258
theorem s1 : newC 16 = 0 := by decide +kernel
theorem s2 : sm.1.length = 16 ∧ sm.2.length = 0 ∧ sx.1.length = 16 ∧ sx.2.length = 1 := by decide +kernel
theorem s3 : cellC 16 8 = 0 ∧ cellC 16 9 = -9 ∧ cellC 16 4 = -23 := by decide +kernel
theorem s4 : fetchF sx 8 = 258 := by decide +kernel
theorem s5 : backC sx 0 = 0 ∧ backF sx 0 = sm := by decide +kernel
theorem s7 : rightB sx = true ∧ rightB ([1], []) = false ∧ decide (sm = sm) = true ∧ decide (sx = sm) = false := by decide +kernel

/-- A memory lies in a block of its own. -/
def At (b : Nat) (A P : Option Addr) (L c K d : Nat) (m : PM) (w : World) : Prop := Box w b (.slice A L c) (.slice P K d) 27 ∧ IsMem w (.agg #[.slice A L c, .slice P K d]) m
theorem At.keep {b : Nat} {A P : Option Addr} {L c K d : Nat} {m : PM} {w w' : World} (h : At b A P L c K d m w) (k : Below w.heap.size w w') : At b A P L c K d m w' := ⟨h.1.keep k, h.2.keep k⟩
theorem At.mem {b : Nat} {A P : Option Addr} {L c K d : Nat} {m : PM} {w : World} (h : At b A P L c K d m w) : IsMem w (.agg #[.slice A L c, .slice P K d]) m := h.2
theorem At.use {b : Nat} {A P : Option Addr} {L c K d : Nat} {m : PM} {w : World} (h : At b A P L c K d m w) : w.cell? ⟨b, 0, none⟩ = some (.slice A L c) ∧ w.cell? ⟨b, 1, none⟩ = some (.slice P K d) := ⟨h.1.use.1, h.1.use.2.1⟩
theorem At.lt {b : Nat} {A P : Option Addr} {L c K d : Nat} {m : PM} {w : World} (h : At b A P L c K d m w) : b < w.heap.size := h.1.lt
theorem al_one (w : World) (o : Obj) : Below w.heap.size w (w.alloc o) := (Below.refl _ _).alloc (Nat.le_refl _) o
theorem al_then {w1 w2 : World} {o : Obj} (b : Below (w1.alloc o).heap.size (w1.alloc o) w2) : Below w1.heap.size w1 w2 := (al_one w1 o).trans (b.mono (by simp))

end Go.Proofs.YtbighilgkmfemaaGreatDoor

/- What a statement is asked of, as it is read: slices of bytes, of patches, memories. -/
namespace Go.Proofs.YtbighilgkmfemaaGreatDoor
open Go.ChangeShapes Go.WideShapes Go.ChangeAt Go.RowKit Go.Joins Go.Deep
set_option linter.unusedVariables false
set_option linter.unusedSimpArgs false

theorem plain_of {w : World} {x : Addr} {v : Value} (h : w.cell? (x.add 0) = some v) : ∃ b off, x = ⟨b, off, none⟩ ∧ b < w.heap.size := by
  obtain ⟨b, off, sp⟩ := x
  have e : (⟨b, off, sp⟩ : Addr).add 0 = ⟨b, off, sp⟩ := by simp [Addr.add]
  rw [e] at h
  have hl : b < w.heap.size := by
    rcases Nat.lt_or_ge b w.heap.size with hl | hl
    · exact hl
    · unfold World.cell? at h
      rw [Array.getElem?_eq_none hl] at h
      simp at h
  cases sp with
  | none => exact ⟨b, off, rfl, hl⟩
  | some s =>
    unfold World.cell? at h
    split at h <;> simp_all

section
variable {H : Type} {enc : TypeId × Value → H} {w : World}

theorem open_byt {fuel : Nat} {v : Value} {x : DataW H × List MemPlace} (h : DataW.trod enc Tryz.prog w 0 (fun _ => true) true fuel 24 [v] = some x) : ∃ l, Byt w v l := by
  rcases open_ints Tryz.underlying24 Tryz.underlying5 (by kernel_rfl) h with ⟨hcs, _⟩ | ⟨a, len, cap, zs, hcs, _, hl, hm, hz, _, hcell, hwz⟩
  · simp at hcs
    subst hcs
    exact ⟨[], byt_nil w⟩
  · simp at hcs hz
    subst hcs
    refine ⟨(zs.take len).map fun z => UInt8.ofNat z.toNat, ?_⟩
    have hlen : ((zs.take len).map fun z => UInt8.ofNat z.toNat).length = len := by simp; omega
    refine ⟨some a, cap, by rw [hlen], by rw [hlen]; exact hl, hm, ?_⟩
    by_cases h0 : len = 0
    · subst h0; exact .inl (by simp [u8s])
    · obtain ⟨b, off, rfl, hb⟩ := plain_of (hcell 0 (by omega))
      refine .inr ⟨b, off, rfl, hb, fun j v hv => ?_⟩
      have hj : j < len := by have := (List.getElem?_eq_some_iff.1 hv).1; rw [u8s_len, hlen] at this; exact this
      have hjz : j < zs.length := by omega
      have hc := hcell j hjz
      rw [add_at] at hc
      rw [hc]
      have hw := hwz zs[j] (List.getElem_mem hjz)
      simp only [Lit.wf, IntKind.min, IntKind.max, IntKind.signed, IntKind.bits, Bool.and_eq_true, decide_eq_true_eq] at hw
      simp at hw
      simp [u8s, hj, hjz] at hv
      rw [← hv]
      simp [List.getD, List.getElem?_eq_getElem hjz]
      omega

set_option maxRecDepth 100000 in
theorem open_patch {fuel : Nat} {cs : List Value} {x : DataW H × List MemPlace} (h : DataW.trod enc Tryz.prog w 0 (fun _ => true) true fuel 113 cs = some x) : ∃ p v l, cs = [.int .i64 p, v] ∧ Byt w v l := by
  obtain ⟨ys, n, _, _, hlen, hyl, hf⟩ := DataW.trod_struct Tryz.underlying113 h
  have h2 : cs.length = 2 := hlen.trans (by kernel_rfl)
  have hy2 : ys.length = 2 := hyl
  match cs, h2 with
  | [c0, c1], _ =>
    have f0 : DataW.trod enc Tryz.prog w 0 (fun _ => true) true n 3 (([c0, c1].drop 0).take (Tryz.prog.cellsOf 3)) = ys[0]? := hf 0 _ rfl
    have f1 : DataW.trod enc Tryz.prog w 0 (fun _ => true) true n 24 (([c0, c1].drop 1).take (Tryz.prog.cellsOf 24)) = ys[1]? := hf 1 _ rfl
    have k0 : Tryz.prog.cellsOf 3 = 1 := by kernel_rfl
    have k1 : Tryz.prog.cellsOf 24 = 1 := by kernel_rfl
    rw [k0] at f0
    rw [k1] at f1
    have g0 : ys[0]? = some (ys[0]'(by omega)) := List.getElem?_eq_getElem _
    have g1 : ys[1]? = some (ys[1]'(by omega)) := List.getElem?_eq_getElem _
    rw [g0] at f0
    rw [g1] at f1
    obtain ⟨p, e0, _, _⟩ := DataW.trod_int Tryz.underlying3 f0
    obtain ⟨l, hl⟩ := open_byt f1
    simp at e0
    subst e0
    exact ⟨p, c1, l, rfl, hl⟩

/-- A list, told element by element. -/
theorem list_of {α : Type} (n : Nat) (R : Nat → α → Prop) (h : ∀ i, i < n → ∃ x, R i x) : ∃ l : List α, l.length = n ∧ ∀ (i : Nat) (x : α), l[i]? = some x → R i x := by
  induction n with
  | zero => exact ⟨[], rfl, fun i x hx => by simp at hx⟩
  | succ n ih =>
    obtain ⟨l, h1, h2⟩ := ih fun i hi => h i (by omega)
    obtain ⟨y, hy⟩ := h n (by omega)
    refine ⟨l ++ [y], by simp [h1], fun i x hx => ?_⟩
    by_cases hi : i < l.length
    · rw [List.getElem?_append_left hi] at hx
      exact h2 i x hx
    · have : i = n := by have := (List.getElem?_eq_some_iff.1 hx).1; simp at this; omega
      subst this
      rw [List.getElem?_append_right (by omega), h1, Nat.sub_self] at hx
      simp at hx
      rw [← hx]
      exact hy

set_option maxRecDepth 100000 in
theorem open_patches {fuel : Nat} {v : Value} {x : DataW H × List MemPlace} (h : DataW.trod enc Tryz.prog w 0 (fun _ => true) true fuel 25 [v] = some x) : ∃ ps, Pats w v ps := by
  have hC : Tryz.prog.cellsOf 113 = 2 := by kernel_rfl
  rcases open_slice Tryz.underlying25 h with ⟨hcs, _⟩ | ⟨a, len, cap, mm, n, D, Pl, hcs, _, hl, hm, hmm, _, hi⟩
  · simp at hcs
    subst hcs
    exact ⟨[], pats_nil w⟩
  · simp at hcs hmm
    subst hcs
    rw [hC] at hi
    obtain ⟨L, hL, hR⟩ := list_of len (fun i (q : Int × Value × List UInt8) => w.cell? (a.add (i * 2)) = some (.int .i64 q.1) ∧ w.cell? (a.add (i * 2 + 1)) = some q.2.1 ∧ Byt w q.2.1 q.2.2) (fun i hilt => by
      obtain ⟨cs', hc, ht⟩ := hi i (by omega)
      obtain ⟨p, v, l, rfl, hb⟩ := open_patch ht
      obtain ⟨_, _, hat⟩ := World.cells?_some hc
      refine ⟨(p, v, l), ?_, ?_, hb⟩
      · have := hat 0 (by omega)
        rw [Go.Deep.add_add] at this
        simpa using this
      · have := hat 1 (by omega)
        rw [Go.Deep.add_add] at this
        simpa using this)
    refine ⟨L.map fun q => (q.1, q.2.2), some a, cap, L.map fun q => (q.1, q.2.1), by simp [hL], by simp [hL]; exact hl, hm, ?_, by simp, ?_⟩
    · by_cases h0 : len = 0
      · subst h0
        have : L = [] := List.eq_nil_of_length_eq_zero hL
        subst this
        exact .inl rfl
      · have hL0 : L[0]? = some (L[0]'(by omega)) := List.getElem?_eq_getElem _
        obtain ⟨b, off, rfl, hb⟩ := plain_of (hR 0 _ hL0).1
        refine .inr ⟨b, off, rfl, hb, fun j v hv => ?_⟩
        have hj : j < 2 * len := by have := (List.getElem?_eq_some_iff.1 hv).1; rw [pc_len] at this; simp [hL] at this; exact this
        have hk : j / 2 < L.length := by omega
        have hLk : L[j / 2]? = some L[j / 2] := List.getElem?_eq_getElem hk
        obtain ⟨r1, r2, _⟩ := hR (j / 2) _ hLk
        rw [add_at] at r1 r2
        have hq : (L.map fun q => (q.1, q.2.1))[j / 2]? = some (L[j / 2].1, L[j / 2].2.1) := by rw [List.getElem?_map, hLk]; rfl
        obtain ⟨t1, t2⟩ := pc_at _ _ _ hq
        by_cases he : j % 2 = 0
        · have ej : 2 * (j / 2) = j := by omega
          rw [ej, hv] at t1
          injection t1 with t1
          rw [t1, show off + j = off + j / 2 * 2 by omega]
          exact r1
        · have ej : 2 * (j / 2) + 1 = j := by omega
          rw [ej, hv] at t2
          injection t2 with t2
          rw [t2, show off + j = off + (j / 2 * 2 + 1) by omega]
          exact r2
    · intro i q p hq hp
      rw [List.getElem?_map] at hq hp
      cases hLi : L[i]? with
      | none => rw [hLi] at hq; simp at hq
      | some z =>
        rw [hLi] at hq hp
        simp at hq hp
        subst hq hp
        exact ⟨rfl, (hR i z hLi).2.2⟩

set_option maxRecDepth 100000 in
theorem open_mem {fuel : Nat} {cs : List Value} {x : DataW H × List MemPlace} (h : DataW.trod enc Tryz.prog w 0 (fun _ => true) true fuel 27 cs = some x) : ∃ A L c P K d m, cs = [.slice A L c, .slice P K d] ∧ IsMem w (.agg #[.slice A L c, .slice P K d]) m := by
  obtain ⟨ys, n, _, _, hlen, hyl, hf⟩ := DataW.trod_struct Tryz.underlying27 h
  have h2 : cs.length = 2 := hlen.trans (by kernel_rfl)
  have hy2 : ys.length = 2 := hyl
  match cs, h2 with
  | [c0, c1], _ =>
    have f0 : DataW.trod enc Tryz.prog w 0 (fun _ => true) true n 24 (([c0, c1].drop 0).take (Tryz.prog.cellsOf 24)) = ys[0]? := hf 0 _ rfl
    have f1 : DataW.trod enc Tryz.prog w 0 (fun _ => true) true n 25 (([c0, c1].drop 1).take (Tryz.prog.cellsOf 25)) = ys[1]? := hf 1 _ rfl
    have k0 : Tryz.prog.cellsOf 24 = 1 := by kernel_rfl
    have k1 : Tryz.prog.cellsOf 25 = 1 := by kernel_rfl
    rw [k0] at f0
    rw [k1] at f1
    have g0 : ys[0]? = some (ys[0]'(by omega)) := List.getElem?_eq_getElem _
    have g1 : ys[1]? = some (ys[1]'(by omega)) := List.getElem?_eq_getElem _
    rw [g0] at f0
    rw [g1] at f1
    obtain ⟨l, hl⟩ := open_byt f0
    obtain ⟨ps, hp⟩ := open_patches f1
    have hm : IsMem w (.agg #[c0, c1]) (l, ps) := mem_mk hl hp
    obtain ⟨A, L, c, P, K, d, rfl, rfl⟩ := hm.slices
    exact ⟨A, L, c, P, K, d, (l, ps), rfl, hm⟩
end
end Go.Proofs.YtbighilgkmfemaaGreatDoor

/- The walk of MemUndoes. -/
namespace Go.Proofs.YtbighilgkmfemaaGreatDoor
open Go.RowKit

/-- Three memories in three blocks. -/
def Z3 (w : World) (b1 b2 b3 : Nat) (A P A2 P2 A3 P3 : Option Addr) (L c K d L2 c2 K2 d2 L3 c3 K3 d3 : Nat) (m x y : PM) (w' : World) : Prop := Below w.heap.size w w' ∧ At b1 A P L c K d m w' ∧ At b2 A2 P2 L2 c2 K2 d2 x w' ∧ At b3 A3 P3 L3 c3 K3 d3 y w'
section
variable {w w1 w2 : World} {b1 b2 b3 : Nat} {A P A2 P2 A3 P3 : Option Addr} {L c K d L2 c2 K2 d2 L3 c3 K3 d3 : Nat} {m x y : PM}
theorem Z3.keep (h : Z3 w b1 b2 b3 A P A2 P2 A3 P3 L c K d L2 c2 K2 d2 L3 c3 K3 d3 m x y w1) (b : Below w1.heap.size w1 w2) : Z3 w b1 b2 b3 A P A2 P2 A3 P3 L c K d L2 c2 K2 d2 L3 c3 K3 d3 m x y w2 := ⟨below_then h.1 b, h.2.1.keep b, h.2.2.1.keep b, h.2.2.2.keep b⟩
theorem Z3.drew (h : Z3 w b1 b2 b3 A P A2 P2 A3 P3 L c K d L2 c2 K2 d2 L3 c3 K3 d3 m x y w1) : Z3 w b1 b2 b3 A P A2 P2 A3 P3 L c K d L2 c2 K2 d2 L3 c3 K3 d3 m x y w1.drew := ⟨h.1.drew, h.2.1, h.2.2.1, h.2.2.2⟩
theorem Z3.bel (h : Z3 w b1 b2 b3 A P A2 P2 A3 P3 L c K d L2 c2 K2 d2 L3 c3 K3 d3 m x y w1) : Below w.heap.size w w1 := h.1
theorem Z3.one (h : Z3 w b1 b2 b3 A P A2 P2 A3 P3 L c K d L2 c2 K2 d2 L3 c3 K3 d3 m x y w1) : IsMem w1 (.agg #[.slice A L c, .slice P K d]) m := h.2.1.mem
theorem Z3.two (h : Z3 w b1 b2 b3 A P A2 P2 A3 P3 L c K d L2 c2 K2 d2 L3 c3 K3 d3 m x y w1) : IsMem w1 (.agg #[.slice A2 L2 c2, .slice P2 K2 d2]) x := h.2.2.1.mem
theorem Z3.three (h : Z3 w b1 b2 b3 A P A2 P2 A3 P3 L c K d L2 c2 K2 d2 L3 c3 K3 d3 m x y w1) : IsMem w1 (.agg #[.slice A3 L3 c3, .slice P3 K3 d3]) y := h.2.2.2.mem
theorem Z3.free (h : Z3 w b1 b2 b3 A P A2 P2 A3 P3 L c K d L2 c2 K2 d2 L3 c3 K3 d3 m x y w1) : IsMem w1 (.agg #[.slice A L c, .slice none 0 0]) (m.1, []) := mem_mk h.2.1.mem.byt (pats_nil _)
end

end Go.Proofs.YtbighilgkmfemaaGreatDoor

/- append of bytes to a row that the call made, in a list of operations and in a region that draws its order. -/
namespace Go.Proofs.YtbighilgkmfemaaGreatDoor
open Go.RowKit
set_option linter.unusedVariables false
set_option linter.unusedSimpArgs false

/-- A value that owns a row of bytes. -/
abbrev BOwns (w : World) (base : Nat) (v : Value) (n : Nat) (l : List UInt8) : Prop := w.ownsRow base 5 1 v n (u8s l)
theorem BOwns.byt {w : World} {base n : Nat} {v : Value} {l : List UInt8} (h : BOwns w base v n l) : Byt w v l := own_byt h
theorem BOwns.len {w : World} {base n : Nat} {v : Value} {l : List UInt8} (h : BOwns w base v n l) : l.length = n := by
  have hl := h.1
  rw [u8s_len, Nat.mul_one] at hl
  exact hl
theorem BOwns.alloc {w : World} {base n : Nat} {v : Value} {l : List UInt8} (h : BOwns w base v n l) (o : Obj) : BOwns (w.alloc o) base v n l := World.ownsRow.alloc h o
set_option maxRecDepth 100000 in
/-- append of a row of bytes to one that the call owns. -/
theorem run_bapp {w : World} (ty : TypeId) {base n : Nat} {v : Value} {xs : List UInt8} (hown : BOwns w base v n xs) {A : Option Addr} {m c : Nat} {ys : List UInt8} (hr : Byt w (.slice A m c) ys) (h63 : n + m ≤ 1000000) (hbase : base ≤ w.heap.size) :
    ∃ v' w', (Builtin.append_ #[24, 24] ty #[v, .slice A m c]).run Tryz.prog w = .ok v' w' ∧ BOwns w' base v' (n + m) (xs ++ ys) ∧ w.grownBy w' v.ownBlock := by
  obtain ⟨i0, hi, hz0, hz1, hz2⟩ := info_parts info_u8
  have h1 := hr.len
  have h4 := hr.lies
  cases A with
  | some ad =>
    have hsrc : ∀ j u, (u8s ys)[j]? = some u → w.cell? (ad.add j) = some u := by
      intro j u hu
      rcases h4 with h4 | ⟨g, o, e, _, hc⟩
      · rw [h4] at hu; simp at hu
      · injection e with e
        rw [e, add_at]
        exact hc j u hu
    obtain ⟨v', w', ha, hb, hc, _⟩ := run_append_own (P := Tryz.prog) w base 24 ty 5 i0 (.int .u8 0) 1 1 Tryz.underlying24 hi hz0 hz1 hz2 rfl (by decide) v n (u8s xs) hown ad m c (u8s ys) (by rw [u8s_len, h1, Nat.mul_one]) hsrc (u8s_one ys) (by unfold maxLen; omega) (by omega) hbase
    exact ⟨v', w', ha, by have e := u8s_app xs ys; unfold BOwns; rw [e]; exact hb, hc⟩
  | none =>
    have hnil : ys = [] := by
      rcases h4 with h | ⟨_, _, h, _⟩
      · have := congrArg List.length h
        rw [u8s_len] at this
        exact List.eq_nil_of_length_eq_zero this
      · cases h
    subst hnil
    have hm : m = 0 := by rw [← h1]; rfl
    subst hm
    refine ⟨v, w, ?_, by simpa using hown, World.grownBy.refl w _⟩
    rcases hown.2 with ⟨rfl, rfl⟩ | ⟨g, cap, cur, rfl, _, _, hnc, _⟩
    · simp [Builtin.append_, run_underlying Tryz.underlying24, sizeOf, typeInfo, hi, Builtin.lenOf, Builtin.firstCells]
    · simp [Builtin.append_, run_underlying Tryz.underlying24, sizeOf, typeInfo, hi, Builtin.lenOf, Builtin.firstCells, hnc, storeCells]
theorem bapp_below {w0 w w' : World} {base n : Nat} {v : Value} {xs : List UInt8} (hown : BOwns w base v n xs) (hb : Below w0.heap.size w0 w) (hg : w.grownBy w' v.ownBlock) (hB : w0.heap.size ≤ base) : Below w0.heap.size w0 w' :=
  hb.grown hg hb.size (fun k hk => Nat.le_trans hB (own_from hown k hk))

theorem wp_bapp {o : Oper} {a : Act} {K : Act → World → Prop} {Q : Exit → Act → World → Prop} {w : World} (s x : Operand)
    (ho : o.op = .call { callee := .builtin .append, args := #[s, x], argTypes := #[24, 24] })
    (base : Nat) (v : Value) (n : Nat) (xs : List UInt8) (hs : a.eval s = v) (hown : BOwns w base v n xs)
    (A : Option Addr) (m c : Nat) (ys : List UInt8) (hx : a.eval x = .slice A m c) (hr : Byt w (.slice A m c) ys) (h63 : n + m ≤ 1000000) (hbase : base ≤ w.heap.size)
    (w0 : World) (hb : Below w0.heap.size w0 w) (hB : w0.heap.size ≤ base)
    (h : ∀ v' w', BOwns w' base v' (n + m) (xs ++ ys) → Below w0.heap.size w0 w' → w.grownBy w' v.ownBlock → K (a.put o.dst v') w') : o.wp Tryz.prog a w K Q := by
  obtain ⟨v', w', hr, h2, h3⟩ := run_bapp o.type hown hr h63 hbase
  unfold Oper.wp execOp
  simp only [ho, resolve, invoke, builtin, Sem.run_bind, Sem.run_pure, Result.andThen_ok, List.map_toArray, List.map_cons, List.map_nil, hs, hx, hr]
  exact h v' w' h2 (bapp_below hown hb h3 hB) h3
theorem wpList_bapp {ops : Array Oper} {rest : List Oper} {o : Oper} {a : Act} {Q : Exit → Act → World → Prop} {w : World} (hgd : o.guard = none) (s x : Operand)
    (ho : o.op = .call { callee := .builtin .append, args := #[s, x], argTypes := #[24, 24] })
    (base : Nat) (v : Value) (n : Nat) (xs : List UInt8) (hs : a.eval s = v) (hown : BOwns w base v n xs)
    (A : Option Addr) (m c : Nat) (ys : List UInt8) (hx : a.eval x = .slice A m c) (hr : Byt w (.slice A m c) ys) (h63 : n + m ≤ 1000000) (hbase : base ≤ w.heap.size)
    (w0 : World) (hb : Below w0.heap.size w0 w) (hB : w0.heap.size ≤ base)
    (h : ∀ v' w', BOwns w' base v' (n + m) (xs ++ ys) → Below w0.heap.size w0 w' → w.grownBy w' v.ownBlock → wpList Tryz.prog ops Q rest (a.put o.dst v') w') : wpList Tryz.prog ops Q (o :: rest) a w :=
  wpList_plain hgd fun _ hK => wp_bapp s x ho base v n xs hs hown A m c ys hx hr h63 hbase w0 hb hB fun v' w' h2 h3 h4 => hK _ _ (h v' w' h2 h3 h4)
theorem step_bapp {ops : Array Oper} {o : Oper} {a : Act} {K : Act → World → Prop} {Q : Exit → Act → World → Prop} {E : Prop} {w : World} (hgd : o.guard = none) (s x : Operand)
    (ho : o.op = .call { callee := .builtin .append, args := #[s, x], argTypes := #[24, 24] })
    (base : Nat) (v : Value) (n : Nat) (xs : List UInt8) (hs : a.eval s = v) (hown : BOwns w base v n xs)
    (A : Option Addr) (m c : Nat) (ys : List UInt8) (hx : a.eval x = .slice A m c) (hr : Byt w (.slice A m c) ys) (h63 : n + m ≤ 1000000) (hbase : base ≤ w.heap.size)
    (w0 : World) (hb : Below w0.heap.size w0 w) (hB : w0.heap.size ≤ base)
    (h : ∀ v' w', BOwns w' base v' (n + m) (xs ++ ys) → Below w0.heap.size w0 w' → w.grownBy w' v.ownBlock → K (a.put o.dst v') w') :
    if Region.wanted o (yielded ops a.tmps) = true then Oper.wp Tryz.prog o a w K Q else E := by
  have hw : Region.wanted o (yielded ops a.tmps) = true := by simp [Region.wanted, hgd]
  rw [if_pos hw]
  exact wp_bapp s x ho base v n xs hs hown A m c ys hx hr h63 hbase w0 hb hB h

theorem none_bowns (w : World) : BOwns (w.alloc (.cells #[] 5)) w.heap.size (.slice (some ⟨w.heap.size, 0, none⟩) 0 0) 0 [] := World.ownsRow_lit w #[] 0 (Nat.le_refl _) (by unfold maxLen; omega) rfl
theorem Box.grown {w w' : World} {b : Nat} {x y : Value} {t : TypeId} {row : Option Nat} (h : Box w b x y t) (hg : w.grownBy w' row) (hne : some b ≠ row) : Box w' b x y t := (hg.block b h.lt hne).trans h
end Go.Proofs.YtbighilgkmfemaaGreatDoor

/- Contracts of the document's UShow and Show. -/
namespace Go.Proofs.YtbighilgkmfemaaGreatDoor
open Go.RowKit
set_option linter.unusedVariables false
set_option linter.unusedSimpArgs false

/-- What is there yet of a number's text, and what comes ahead of it. -/
def Rest (b u0 u : Nat) (l : List UInt8) : Prop := (b ≤ u → usF b u0 = usF b (u / b) ++ l) ∧ (u < b → usF b u0 = l)
theorem Rest.step {b u0 u : Nat} {l : List UInt8} (h2 : 2 ≤ b) (h : Rest b u0 u l) (hu : b ≤ u) : Rest b u0 (u / b) (UInt8.ofNat (digN (u / b % b)) :: l) := by
  have e := h.1 hu
  refine ⟨fun h => ?_, fun h => ?_⟩
  · rw [e, usF_big h2 h, List.append_assoc]
    rfl
  · rw [e, usF_low h, Nat.mod_eq_of_lt h]
    rfl
theorem us_le {b : Nat} (h2 : 2 ≤ b) : ∀ j u, u < 2 ^ (j + 1) → (usF b u).length ≤ j + 1 := by
  intro j
  induction j with
  | zero =>
    intro u hu
    rw [usF_low (by omega)]
    simp
  | succ j ih =>
    intro u hu
    by_cases h : b ≤ u
    · rw [usF_big h2 h, List.length_append]
      have hd : u / b < 2 ^ (j + 1) := by
        rw [Nat.div_lt_iff_lt_mul (by omega)]
        have e : 2 ^ (j + 1 + 1) = 2 ^ (j + 1) * 2 := Nat.pow_succ _ _
        have : 2 ^ (j + 1) * 2 ≤ 2 ^ (j + 1) * b := Nat.mul_le_mul_left _ h2
        omega
      have := ih _ hd
      simp
      omega
    · rw [usF_low (by omega)]
      simp
theorem Rest.len {b u0 u : Nat} {l : List UInt8} (h2 : 2 ≤ b) (h : Rest b u0 u l) (h0 : u0 < 18446744073709551616) : l.length ≤ 64 := by
  have hl := us_le h2 63 u0 (by omega)
  by_cases hu : b ≤ u
  · rw [h.1 hu, List.length_append] at hl
    omega
  · rw [h.2 (by omega)] at hl
    exact hl
theorem cat_ok {a b : List UInt8} (h : a.length + b.length ≤ 9223372036854775807) : ¬ (9223372036854775807 < (strB a).size + (strB b).size) := by
  rw [strB_size, strB_size]
  omega
theorem alloc_then {w w1 : World} {o : Obj} (b : Below w.heap.size w w1) : Below w.heap.size w (w1.alloc o) := b.alloc b.size o

end Go.Proofs.YtbighilgkmfemaaGreatDoor

/- A contract of the document's Parse. -/
namespace Go.Proofs.YtbighilgkmfemaaGreatDoor
open Go.RowKit
set_option linter.unusedVariables false
set_option linter.unusedSimpArgs false

theorem ix_at (l : List UInt8) (i : Nat) (c : UInt8) (h : l[i]? = some c) : ∀ w, (Instr.index 9 (.string (strB l)) (.int .i64 (i : Int))).run Tryz.prog w = .ok (.int .u8 (c.toNat : Int)) w := by
  intro w
  have hi := (List.getElem?_eq_some_iff.1 h).1
  have := run_ix l i hi w
  rw [(List.getElem?_eq_some_iff.1 h).2] at this
  exact this
end Go.Proofs.YtbighilgkmfemaaGreatDoor
