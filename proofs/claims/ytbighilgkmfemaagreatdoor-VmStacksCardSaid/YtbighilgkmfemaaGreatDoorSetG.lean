/- What the laws of this stage lean on, part 7: VmIn, FieldsLay, VmLaid, VmRefA, VmRefB. -/
import Derived.Test.YtbighilgkmfemaaGreatDoorSetE
import Derived.Test.YtbighilgkmfemaaGreatDoorSetF
import Derived.Test.YtbighilgkmfemaaGreatDoorSetB
import Derived.Test.YtbighilgkmfemaaGreatDoorSetC
import Derived.ChangeMaps5
import Derived.Shelf.Strings.Fields
import Derived.ProofKit
import Derived.LaidMore
import Derived.Lib.LaidTab
import Derived.Stop.Joined
import Derived.Test.YtbighilgkmfemaaGreatDoorSetD

/- What a machine that came as an argument holds. -/
namespace Go.Proofs.YtbighilgkmfemaaGreatDoor
open Go.ChangeShapes Go.WideShapes Go.ChangeAt Go.RowKit Go.Joins Go.Deep
set_option linter.unusedVariables false
set_option linter.unusedSimpArgs false

section
variable {H : Type} {enc : TypeId × Value → H} {w : World}
set_option maxRecDepth 100000 in
theorem open_word {fuel : Nat} {cs : List Value} {x : DataW H × List MemPlace} (h : DataW.trod enc Tryz.prog w 0 (fun _ => true) true fuel 66 cs = some x) : ∃ s_nm j_xt j_fl, cs = [.string (strB s_nm), .int .i64 j_xt, .int .i64 j_fl] ∧ s_nm.length ≤ 9223372036854775807 ∧ (Lit.int .i64 j_xt).wf = true ∧ (Lit.int .i64 j_fl).wf = true := by
  obtain ⟨ys, n, _, _, hlen, hyl, hf⟩ := DataW.trod_struct Tryz.underlying66 h
  have h2 : cs.length = 3 := hlen.trans (by kernel_rfl)
  have hy2 : ys.length = 3 := hyl
  match cs, h2 with
  | [c0, c1, c2], _ =>
    have f0 : DataW.trod enc Tryz.prog w 0 (fun _ => true) true n 9 (([c0, c1, c2].drop 0).take (Tryz.prog.cellsOf 9)) = ys[0]? := hf 0 _ rfl
    rw [show Tryz.prog.cellsOf 9 = 1 by kernel_rfl] at f0
    rw [show ys[0]? = some (ys[0]'(by omega)) from List.getElem?_eq_getElem _] at f0
    have f1 : DataW.trod enc Tryz.prog w 0 (fun _ => true) true n 3 (([c0, c1, c2].drop 1).take (Tryz.prog.cellsOf 3)) = ys[1]? := hf 1 _ rfl
    rw [show Tryz.prog.cellsOf 3 = 1 by kernel_rfl] at f1
    rw [show ys[1]? = some (ys[1]'(by omega)) from List.getElem?_eq_getElem _] at f1
    have f2 : DataW.trod enc Tryz.prog w 0 (fun _ => true) true n 3 (([c0, c1, c2].drop 2).take (Tryz.prog.cellsOf 3)) = ys[2]? := hf 2 _ rfl
    rw [show Tryz.prog.cellsOf 3 = 1 by kernel_rfl] at f2
    rw [show ys[2]? = some (ys[2]'(by omega)) from List.getElem?_eq_getElem _] at f2
    obtain ⟨p0, e0, _, w0⟩ := DataW.trod_string Tryz.underlying9 f0
    have e0' : c0 = .string p0 := by simpa using e0
    subst e0'
    obtain ⟨q0, rfl⟩ : ∃ l, p0 = strB l := ⟨_, (strB_of p0).symm⟩
    have hw0 : q0.length ≤ 9223372036854775807 := Nat.le_trans w0 (by decide)
    obtain ⟨p1, e1, _, w1⟩ := DataW.trod_int Tryz.underlying3 f1
    have e1' : c1 = .int .i64 p1 := by simpa using e1
    subst e1'
    obtain ⟨p2, e2, _, w2⟩ := DataW.trod_int Tryz.underlying3 f2
    have e2' : c2 = .int .i64 p2 := by simpa using e2
    subst e2'
    exact ⟨q0, p1, p2, rfl, hw0, w1, w2⟩
set_option maxRecDepth 100000 in
theorem open_wds {fuel : Nat} {v : Value} {x : DataW H × List MemPlace} (h : DataW.trod enc Tryz.prog w 0 (fun _ => true) true fuel 30 [v] = some x) : ∃ l, Wds w v l := by
  have hC : Tryz.prog.cellsOf 66 = 3 := by kernel_rfl
  rcases open_slice Tryz.underlying30 h with ⟨hcs, _⟩ | ⟨a, len, cap, mm, n, D, Pl, hcs, _, hl, hm, hmm, _, hi⟩
  · simp at hcs
    subst hcs
    exact ⟨[], wds_nil w⟩
  · simp at hcs hmm
    subst hcs
    rw [hC] at hi
    obtain ⟨L, hL, hR⟩ := list_of len (fun i (q : Wr) => w.cell? (a.add (i * 3)) = some (.string (strB q.nm)) ∧ w.cell? (a.add (i * 3 + 1)) = some (.int .i64 q.xt) ∧ w.cell? (a.add (i * 3 + 2)) = some (.int .i64 q.fl)) (fun i hilt => by
      obtain ⟨cs', hc, ht⟩ := hi i (by omega)
      obtain ⟨nm, xt, fl, rfl, _, _, _⟩ := open_word ht
      obtain ⟨_, _, hat⟩ := World.cells?_some hc
      refine ⟨⟨nm, xt, fl⟩, ?_, ?_, ?_⟩
      · have := hat 0 (by omega)
        rw [Go.Deep.add_add] at this
        simpa using this
      · have := hat 1 (by omega)
        rw [Go.Deep.add_add] at this
        simpa using this
      · have := hat 2 (by omega)
        rw [Go.Deep.add_add] at this
        simpa using this)
    refine ⟨L, some a, cap, by rw [hL], by rw [hL]; exact hl, hm, ?_⟩
    by_cases h0 : len = 0
    · subst h0
      have : L = [] := List.eq_nil_of_length_eq_zero hL
      subst this
      exact .inl rfl
    · have hL0 : L[0]? = some (L[0]'(by omega)) := List.getElem?_eq_getElem _
      obtain ⟨b, off, rfl, hb⟩ := plain_of (hR 0 _ hL0).1
      refine .inr ⟨b, off, rfl, hb, fun j v hv => ?_⟩
      have hj : j < len * 3 := by have := (List.getElem?_eq_some_iff.1 hv).1; rw [wds_len, hL] at this; exact this
      have hk : j / 3 < L.length := by omega
      have hLk : L[j / 3]? = some L[j / 3] := List.getElem?_eq_getElem hk
      obtain ⟨r1, r2, r3⟩ := hR (j / 3) _ hLk
      rw [add_at] at r1 r2 r3
      obtain ⟨t1, t2, t3⟩ := wds_at hk
      rcases (by omega : j % 3 = 0 ∨ j % 3 = 1 ∨ j % 3 = 2) with he | he | he
      · rw [show 3 * (j / 3) = j by omega, hv] at t1
        injection t1 with t1
        rw [t1, show off + j = off + j / 3 * 3 by omega]
        exact r1
      · rw [show 3 * (j / 3) + 1 = j by omega, hv] at t2
        injection t2 with t2
        rw [t2, show off + j = off + (j / 3 * 3 + 1) by omega]
        exact r2
      · rw [show 3 * (j / 3) + 2 = j by omega, hv] at t3
        injection t3 with t3
        rw [t3, show off + j = off + (j / 3 * 3 + 2) by omega]
        exact r3
theorem open_row {fuel : Nat} {v : Value} {x : DataW H × List MemPlace} (h : DataW.trod enc Tryz.prog w 0 (fun _ => true) true fuel 28 [v] = some x) : ∃ A n c l, v = .slice A n c ∧ Row w A n c l := by
  rcases open_ints Tryz.underlying28 Tryz.underlying3 (by kernel_rfl) h with ⟨hcs, _⟩ | ⟨a, len, cap, zs, hcs, _, hl, hm, hz, _, hcell, hwz⟩
  · simp at hcs
    exact ⟨_, _, _, _, hcs, row_nil w⟩
  · simp at hcs hz
    refine ⟨_, _, _, zs.take len, hcs, by simp; omega, hl, hm, ?_⟩
    by_cases h0 : len = 0
    · subst h0; exact .inl (by simp [ints])
    · obtain ⟨b, off, rfl, hb⟩ := plain_of (hcell 0 (by omega))
      refine .inr ⟨b, off, rfl, hb, fun j v hv => ?_⟩
      have hj : j < len := by have := (List.getElem?_eq_some_iff.1 hv).1; rw [ints_len] at this; simp at this; omega
      have hjz : j < zs.length := by omega
      have hc := hcell j hjz
      rw [add_at] at hc
      rw [hc]
      simp [ints, hj, hjz] at hv
      rw [← hv]
      simp [List.getD, List.getElem?_eq_getElem hjz]
set_option maxRecDepth 100000 in
theorem open_pic {fuel : Nat} {cs : List Value} {x : DataW H × List MemPlace} (h : DataW.trod enc Tryz.prog w 0 (fun _ => true) true fuel 32 cs = some x) : ∃ B_B l_B e_B b_B o_On, cs = [.slice B_B l_B e_B, .bool o_On] ∧ Byt w (.slice B_B l_B e_B) b_B := by
  obtain ⟨ys, n, _, _, hlen, hyl, hf⟩ := DataW.trod_struct Tryz.underlying32 h
  have h2 : cs.length = 2 := hlen.trans (by kernel_rfl)
  have hy2 : ys.length = 2 := hyl
  match cs, h2 with
  | [c0, c1], _ =>
    have f0 : DataW.trod enc Tryz.prog w 0 (fun _ => true) true n 24 (([c0, c1].drop 0).take (Tryz.prog.cellsOf 24)) = ys[0]? := hf 0 _ rfl
    rw [show Tryz.prog.cellsOf 24 = 1 by kernel_rfl] at f0
    rw [show ys[0]? = some (ys[0]'(by omega)) from List.getElem?_eq_getElem _] at f0
    have f1 : DataW.trod enc Tryz.prog w 0 (fun _ => true) true n 4 (([c0, c1].drop 1).take (Tryz.prog.cellsOf 4)) = ys[1]? := hf 1 _ rfl
    rw [show Tryz.prog.cellsOf 4 = 1 by kernel_rfl] at f1
    rw [show ys[1]? = some (ys[1]'(by omega)) from List.getElem?_eq_getElem _] at f1
    obtain ⟨b0, hb0⟩ := open_byt f0
    obtain ⟨B0, l0, z0, e0⟩ := hb0.slice
    have e0' : c0 = .slice B0 l0 z0 := e0
    subst e0'
    obtain ⟨p1, e1, _⟩ := DataW.trod_bool Tryz.underlying4 f1
    have e1' : c1 = .bool p1 := by simpa using e1
    subst e1'
    exact ⟨B0, l0, z0, b0, p1, rfl, hb0⟩
/-- A slice of structs that came as an argument. -/
theorem open_rws {α : Type} {encd : α → List Value} {s : Nat} (hs : ∀ x, (encd x).length = s) (h0 : 0 < s) {S T : TypeId} (hu : Tryz.prog.underlying S = some (.slice T)) (hC : Tryz.prog.cellsOf T = s)
    (hel : ∀ {fuel : Nat} {cs : List Value} {x : DataW H × List MemPlace}, DataW.trod enc Tryz.prog w 0 (fun _ => true) true fuel T cs = some x → ∃ q, cs = encd q)
    {fuel : Nat} {v : Value} {x : DataW H × List MemPlace} (h : DataW.trod enc Tryz.prog w 0 (fun _ => true) true fuel S [v] = some x) : ∃ A n c l, v = .slice A n c ∧ Rws encd w (.slice A n c) l := by
  rcases open_slice hu h with ⟨hcs, _⟩ | ⟨a, len, cap, mm, n, D, Pl, hcs, _, hl, hm, hmm, _, hi⟩
  · simp at hcs
    subst hcs
    exact ⟨_, _, _, [], rfl, rws_nil _ w⟩
  · simp at hcs hmm
    subst hcs
    rw [hC] at hi
    obtain ⟨L, hL, hR⟩ := list_of len (fun i (q : α) => ∀ j u, j < s → (encd q)[j]? = some u → w.cell? (a.add (i * s + j)) = some u) (fun i hilt => by
      obtain ⟨cs', hc, ht⟩ := hi i (by omega)
      obtain ⟨q, rfl⟩ := hel ht
      obtain ⟨_, _, hat⟩ := World.cells?_some hc
      refine ⟨q, fun j u hj hu2 => ?_⟩
      have := hat j hj
      rw [Go.Deep.add_add] at this
      rw [this]
      exact hu2)
    refine ⟨some a, len, cap, L, rfl, some a, cap, by rw [hL], by rw [hL]; exact hl, hm, ?_⟩
    by_cases hz : len = 0
    · subst hz
      have : L = [] := List.eq_nil_of_length_eq_zero hL
      subst this
      exact .inl rfl
    · have hL0 : L[0]? = some (L[0]'(by omega)) := List.getElem?_eq_getElem _
      have hu0 : (encd (L[0]'(by omega)))[0]? = some ((encd (L[0]'(by omega)))[0]'(by rw [hs]; exact h0)) := List.getElem?_eq_getElem _
      have hfirst := hR 0 _ hL0 0 _ h0 hu0
      rw [Nat.zero_mul, Nat.zero_add] at hfirst
      obtain ⟨b, off, rfl, hb⟩ := plain_of hfirst
      refine .inr ⟨b, off, rfl, hb, fun j v hv => ?_⟩
      have hdm : j / s * s + j % s = j := by rw [Nat.mul_comm]; exact Nat.div_add_mod j s
      have hms : j % s < s := Nat.mod_lt _ h0
      have hj : j < len * s := by
        have := (List.getElem?_eq_some_iff.1 hv).1
        rw [List.length_flatMap] at this
        have e : (L.map fun x => (encd x).length) = L.map fun _ => s := List.map_congr_left fun x _ => hs x
        rw [e, List.map_const', List.sum_replicate_nat, hL] at this
        exact this
      have hk : j / s < L.length := by rw [hL]; exact Nat.div_lt_of_lt_mul (by rw [Nat.mul_comm]; exact hj)
      have hf := flat_at hs hk hms
      rw [hdm, hv] at hf
      have := hR (j / s) _ (List.getElem?_eq_getElem hk) (j % s) v hms hf.symm
      rw [add_at, hdm] at this
      exact this
set_option maxRecDepth 100000 in
theorem open_fm {fuel : Nat} {cs : List Value} {x : DataW H × List MemPlace} (h : DataW.trod enc Tryz.prog w 0 (fun _ => true) true fuel 89 cs = some x) : ∃ j_d j_r j_ip, cs = [.int .i64 j_d, .int .i64 j_r, .int .i64 j_ip] ∧ (Lit.int .i64 j_d).wf = true ∧ (Lit.int .i64 j_r).wf = true ∧ (Lit.int .i64 j_ip).wf = true := by
  obtain ⟨ys, n, _, _, hlen, hyl, hf⟩ := DataW.trod_struct Tryz.underlying89 h
  have h2 : cs.length = 3 := hlen.trans (by kernel_rfl)
  have hy2 : ys.length = 3 := hyl
  match cs, h2 with
  | [c0, c1, c2], _ =>
    have f0 : DataW.trod enc Tryz.prog w 0 (fun _ => true) true n 3 (([c0, c1, c2].drop 0).take (Tryz.prog.cellsOf 3)) = ys[0]? := hf 0 _ rfl
    rw [show Tryz.prog.cellsOf 3 = 1 by kernel_rfl] at f0
    rw [show ys[0]? = some (ys[0]'(by omega)) from List.getElem?_eq_getElem _] at f0
    have f1 : DataW.trod enc Tryz.prog w 0 (fun _ => true) true n 3 (([c0, c1, c2].drop 1).take (Tryz.prog.cellsOf 3)) = ys[1]? := hf 1 _ rfl
    rw [show Tryz.prog.cellsOf 3 = 1 by kernel_rfl] at f1
    rw [show ys[1]? = some (ys[1]'(by omega)) from List.getElem?_eq_getElem _] at f1
    have f2 : DataW.trod enc Tryz.prog w 0 (fun _ => true) true n 3 (([c0, c1, c2].drop 2).take (Tryz.prog.cellsOf 3)) = ys[2]? := hf 2 _ rfl
    rw [show Tryz.prog.cellsOf 3 = 1 by kernel_rfl] at f2
    rw [show ys[2]? = some (ys[2]'(by omega)) from List.getElem?_eq_getElem _] at f2
    obtain ⟨p0, e0, _, w0⟩ := DataW.trod_int Tryz.underlying3 f0
    have e0' : c0 = .int .i64 p0 := by simpa using e0
    subst e0'
    obtain ⟨p1, e1, _, w1⟩ := DataW.trod_int Tryz.underlying3 f1
    have e1' : c1 = .int .i64 p1 := by simpa using e1
    subst e1'
    obtain ⟨p2, e2, _, w2⟩ := DataW.trod_int Tryz.underlying3 f2
    have e2' : c2 = .int .i64 p2 := by simpa using e2
    subst e2'
    exact ⟨p0, p1, p2, rfl, w0, w1, w2⟩
theorem open_fms {fuel : Nat} {v : Value} {x : DataW H × List MemPlace} (h : DataW.trod enc Tryz.prog w 0 (fun _ => true) true fuel 29 [v] = some x) : ∃ A n c l, v = .slice A n c ∧ Rws fmE w (.slice A n c) l :=
  open_rws (s := 3) (fun _ => rfl) (by decide) Tryz.underlying29 (by kernel_rfl) (fun h => by
    obtain ⟨j_d, j_r, j_ip, e, _⟩ := open_fm h
    exact ⟨⟨j_d, j_r, j_ip⟩, e⟩) h
set_option maxRecDepth 100000 in
theorem open_rq {fuel : Nat} {cs : List Value} {x : DataW H × List MemPlace} (h : DataW.trod enc Tryz.prog w 0 (fun _ => true) true fuel 96 cs = some x) : ∃ j_k j_a j_h j_r j_d j_i, cs = [.int .i64 j_k, .int .i64 j_a, .int .i64 j_h, .int .i64 j_r, .int .i64 j_d, .int .i64 j_i] ∧ (Lit.int .i64 j_k).wf = true ∧ (Lit.int .i64 j_a).wf = true ∧ (Lit.int .i64 j_h).wf = true ∧ (Lit.int .i64 j_r).wf = true ∧ (Lit.int .i64 j_d).wf = true ∧ (Lit.int .i64 j_i).wf = true := by
  obtain ⟨ys, n, _, _, hlen, hyl, hf⟩ := DataW.trod_struct Tryz.underlying96 h
  have h2 : cs.length = 6 := hlen.trans (by kernel_rfl)
  have hy2 : ys.length = 6 := hyl
  match cs, h2 with
  | [c0, c1, c2, c3, c4, c5], _ =>
    have f0 : DataW.trod enc Tryz.prog w 0 (fun _ => true) true n 3 (([c0, c1, c2, c3, c4, c5].drop 0).take (Tryz.prog.cellsOf 3)) = ys[0]? := hf 0 _ rfl
    rw [show Tryz.prog.cellsOf 3 = 1 by kernel_rfl] at f0
    rw [show ys[0]? = some (ys[0]'(by omega)) from List.getElem?_eq_getElem _] at f0
    have f1 : DataW.trod enc Tryz.prog w 0 (fun _ => true) true n 3 (([c0, c1, c2, c3, c4, c5].drop 1).take (Tryz.prog.cellsOf 3)) = ys[1]? := hf 1 _ rfl
    rw [show Tryz.prog.cellsOf 3 = 1 by kernel_rfl] at f1
    rw [show ys[1]? = some (ys[1]'(by omega)) from List.getElem?_eq_getElem _] at f1
    have f2 : DataW.trod enc Tryz.prog w 0 (fun _ => true) true n 3 (([c0, c1, c2, c3, c4, c5].drop 2).take (Tryz.prog.cellsOf 3)) = ys[2]? := hf 2 _ rfl
    rw [show Tryz.prog.cellsOf 3 = 1 by kernel_rfl] at f2
    rw [show ys[2]? = some (ys[2]'(by omega)) from List.getElem?_eq_getElem _] at f2
    have f3 : DataW.trod enc Tryz.prog w 0 (fun _ => true) true n 3 (([c0, c1, c2, c3, c4, c5].drop 3).take (Tryz.prog.cellsOf 3)) = ys[3]? := hf 3 _ rfl
    rw [show Tryz.prog.cellsOf 3 = 1 by kernel_rfl] at f3
    rw [show ys[3]? = some (ys[3]'(by omega)) from List.getElem?_eq_getElem _] at f3
    have f4 : DataW.trod enc Tryz.prog w 0 (fun _ => true) true n 3 (([c0, c1, c2, c3, c4, c5].drop 4).take (Tryz.prog.cellsOf 3)) = ys[4]? := hf 4 _ rfl
    rw [show Tryz.prog.cellsOf 3 = 1 by kernel_rfl] at f4
    rw [show ys[4]? = some (ys[4]'(by omega)) from List.getElem?_eq_getElem _] at f4
    have f5 : DataW.trod enc Tryz.prog w 0 (fun _ => true) true n 3 (([c0, c1, c2, c3, c4, c5].drop 5).take (Tryz.prog.cellsOf 3)) = ys[5]? := hf 5 _ rfl
    rw [show Tryz.prog.cellsOf 3 = 1 by kernel_rfl] at f5
    rw [show ys[5]? = some (ys[5]'(by omega)) from List.getElem?_eq_getElem _] at f5
    obtain ⟨p0, e0, _, w0⟩ := DataW.trod_int Tryz.underlying3 f0
    have e0' : c0 = .int .i64 p0 := by simpa using e0
    subst e0'
    obtain ⟨p1, e1, _, w1⟩ := DataW.trod_int Tryz.underlying3 f1
    have e1' : c1 = .int .i64 p1 := by simpa using e1
    subst e1'
    obtain ⟨p2, e2, _, w2⟩ := DataW.trod_int Tryz.underlying3 f2
    have e2' : c2 = .int .i64 p2 := by simpa using e2
    subst e2'
    obtain ⟨p3, e3, _, w3⟩ := DataW.trod_int Tryz.underlying3 f3
    have e3' : c3 = .int .i64 p3 := by simpa using e3
    subst e3'
    obtain ⟨p4, e4, _, w4⟩ := DataW.trod_int Tryz.underlying3 f4
    have e4' : c4 = .int .i64 p4 := by simpa using e4
    subst e4'
    obtain ⟨p5, e5, _, w5⟩ := DataW.trod_int Tryz.underlying3 f5
    have e5' : c5 = .int .i64 p5 := by simpa using e5
    subst e5'
    exact ⟨p0, p1, p2, p3, p4, p5, rfl, w0, w1, w2, w3, w4, w5⟩
theorem open_rqs {fuel : Nat} {v : Value} {x : DataW H × List MemPlace} (h : DataW.trod enc Tryz.prog w 0 (fun _ => true) true fuel 33 [v] = some x) : ∃ A n c l, v = .slice A n c ∧ Rws rqE w (.slice A n c) l :=
  open_rws (s := 6) (fun _ => rfl) (by decide) Tryz.underlying33 (by kernel_rfl) (fun h => by
    obtain ⟨j_k, j_a, j_h, j_r, j_d, j_i, e, _⟩ := open_rq h
    exact ⟨⟨j_k, j_a, j_h, j_r, j_d, j_i⟩, e⟩) h
set_option maxRecDepth 100000 in
theorem open_hn {fuel : Nat} {cs : List Value} {x : DataW H × List MemPlace} (h : DataW.trod enc Tryz.prog w 0 (fun _ => true) true fuel 91 cs = some x) : ∃ j_x j_f j_s o_o, cs = [.int .i64 j_x, .int .i64 j_f, .int .i64 j_s, .bool o_o] ∧ (Lit.int .i64 j_x).wf = true ∧ (Lit.int .i64 j_f).wf = true ∧ (Lit.int .i64 j_s).wf = true := by
  obtain ⟨ys, n, _, _, hlen, hyl, hf⟩ := DataW.trod_struct Tryz.underlying91 h
  have h2 : cs.length = 4 := hlen.trans (by kernel_rfl)
  have hy2 : ys.length = 4 := hyl
  match cs, h2 with
  | [c0, c1, c2, c3], _ =>
    have f0 : DataW.trod enc Tryz.prog w 0 (fun _ => true) true n 3 (([c0, c1, c2, c3].drop 0).take (Tryz.prog.cellsOf 3)) = ys[0]? := hf 0 _ rfl
    rw [show Tryz.prog.cellsOf 3 = 1 by kernel_rfl] at f0
    rw [show ys[0]? = some (ys[0]'(by omega)) from List.getElem?_eq_getElem _] at f0
    have f1 : DataW.trod enc Tryz.prog w 0 (fun _ => true) true n 3 (([c0, c1, c2, c3].drop 1).take (Tryz.prog.cellsOf 3)) = ys[1]? := hf 1 _ rfl
    rw [show Tryz.prog.cellsOf 3 = 1 by kernel_rfl] at f1
    rw [show ys[1]? = some (ys[1]'(by omega)) from List.getElem?_eq_getElem _] at f1
    have f2 : DataW.trod enc Tryz.prog w 0 (fun _ => true) true n 3 (([c0, c1, c2, c3].drop 2).take (Tryz.prog.cellsOf 3)) = ys[2]? := hf 2 _ rfl
    rw [show Tryz.prog.cellsOf 3 = 1 by kernel_rfl] at f2
    rw [show ys[2]? = some (ys[2]'(by omega)) from List.getElem?_eq_getElem _] at f2
    have f3 : DataW.trod enc Tryz.prog w 0 (fun _ => true) true n 4 (([c0, c1, c2, c3].drop 3).take (Tryz.prog.cellsOf 4)) = ys[3]? := hf 3 _ rfl
    rw [show Tryz.prog.cellsOf 4 = 1 by kernel_rfl] at f3
    rw [show ys[3]? = some (ys[3]'(by omega)) from List.getElem?_eq_getElem _] at f3
    obtain ⟨p0, e0, _, w0⟩ := DataW.trod_int Tryz.underlying3 f0
    have e0' : c0 = .int .i64 p0 := by simpa using e0
    subst e0'
    obtain ⟨p1, e1, _, w1⟩ := DataW.trod_int Tryz.underlying3 f1
    have e1' : c1 = .int .i64 p1 := by simpa using e1
    subst e1'
    obtain ⟨p2, e2, _, w2⟩ := DataW.trod_int Tryz.underlying3 f2
    have e2' : c2 = .int .i64 p2 := by simpa using e2
    subst e2'
    obtain ⟨p3, e3, _⟩ := DataW.trod_bool Tryz.underlying4 f3
    have e3' : c3 = .bool p3 := by simpa using e3
    subst e3'
    exact ⟨p0, p1, p2, p3, rfl, w0, w1, w2⟩
theorem open_hns {fuel : Nat} {v : Value} {x : DataW H × List MemPlace} (h : DataW.trod enc Tryz.prog w 0 (fun _ => true) true fuel 34 [v] = some x) : ∃ A n c l, v = .slice A n c ∧ Rws hnE w (.slice A n c) l :=
  open_rws (s := 4) (fun _ => rfl) (by decide) Tryz.underlying34 (by kernel_rfl) (fun h => by
    obtain ⟨j_x, j_f, j_s, o_o, e, _⟩ := open_hn h
    exact ⟨⟨j_x, j_f, j_s, o_o⟩, e⟩) h
/-- A machine's numbers are in bounds. -/
structure VmWf (k : VmK) : Prop where
  cm : (Lit.int .i64 k.cm).wf = true
  cd : (Lit.int .i64 k.cd).wf = true
  cr : (Lit.int .i64 k.cr).wf = true
  cw : (Lit.int .i64 k.cw).wf = true
  co : (Lit.int .i64 k.co).wf = true
  here : (Lit.int .i64 k.here).wf = true
  last : (Lit.int .i64 k.last).wf = true
  free : (Lit.int .i64 k.free).wf = true
  next : (Lit.int .i64 k.next).wf = true
  arg : (Lit.int .i64 k.arg).wf = true
  self : (Lit.int .i64 k.self).wf = true
  now : (Lit.int .i64 k.now).wf = true
set_option maxRecDepth 100000 in
theorem open_conf {fuel : Nat} {cs : List Value} {x : DataW H × List MemPlace} (h : DataW.trod enc Tryz.prog w 0 (fun _ => true) true fuel 23 cs = some x) : ∃ j_m j_d j_r j_w j_o, cs = [.int .i64 j_m, .int .i64 j_d, .int .i64 j_r, .int .i64 j_w, .int .i64 j_o] ∧ (Lit.int .i64 j_m).wf = true ∧ (Lit.int .i64 j_d).wf = true ∧ (Lit.int .i64 j_r).wf = true ∧ (Lit.int .i64 j_w).wf = true ∧ (Lit.int .i64 j_o).wf = true := by
  obtain ⟨ys, n, _, _, hlen, hyl, hf⟩ := DataW.trod_struct Tryz.underlying23 h
  have h2 : cs.length = 5 := hlen.trans (by kernel_rfl)
  have hy2 : ys.length = 5 := hyl
  match cs, h2 with
  | [c0, c1, c2, c3, c4], _ =>
    have f0 : DataW.trod enc Tryz.prog w 0 (fun _ => true) true n 3 (([c0, c1, c2, c3, c4].drop 0).take (Tryz.prog.cellsOf 3)) = ys[0]? := hf 0 _ rfl
    rw [show Tryz.prog.cellsOf 3 = 1 by kernel_rfl] at f0
    rw [show ys[0]? = some (ys[0]'(by omega)) from List.getElem?_eq_getElem _] at f0
    have f1 : DataW.trod enc Tryz.prog w 0 (fun _ => true) true n 3 (([c0, c1, c2, c3, c4].drop 1).take (Tryz.prog.cellsOf 3)) = ys[1]? := hf 1 _ rfl
    rw [show Tryz.prog.cellsOf 3 = 1 by kernel_rfl] at f1
    rw [show ys[1]? = some (ys[1]'(by omega)) from List.getElem?_eq_getElem _] at f1
    have f2 : DataW.trod enc Tryz.prog w 0 (fun _ => true) true n 3 (([c0, c1, c2, c3, c4].drop 2).take (Tryz.prog.cellsOf 3)) = ys[2]? := hf 2 _ rfl
    rw [show Tryz.prog.cellsOf 3 = 1 by kernel_rfl] at f2
    rw [show ys[2]? = some (ys[2]'(by omega)) from List.getElem?_eq_getElem _] at f2
    have f3 : DataW.trod enc Tryz.prog w 0 (fun _ => true) true n 3 (([c0, c1, c2, c3, c4].drop 3).take (Tryz.prog.cellsOf 3)) = ys[3]? := hf 3 _ rfl
    rw [show Tryz.prog.cellsOf 3 = 1 by kernel_rfl] at f3
    rw [show ys[3]? = some (ys[3]'(by omega)) from List.getElem?_eq_getElem _] at f3
    have f4 : DataW.trod enc Tryz.prog w 0 (fun _ => true) true n 3 (([c0, c1, c2, c3, c4].drop 4).take (Tryz.prog.cellsOf 3)) = ys[4]? := hf 4 _ rfl
    rw [show Tryz.prog.cellsOf 3 = 1 by kernel_rfl] at f4
    rw [show ys[4]? = some (ys[4]'(by omega)) from List.getElem?_eq_getElem _] at f4
    obtain ⟨p0, e0, _, w0⟩ := DataW.trod_int Tryz.underlying3 f0
    have e0' : c0 = .int .i64 p0 := by simpa using e0
    subst e0'
    obtain ⟨p1, e1, _, w1⟩ := DataW.trod_int Tryz.underlying3 f1
    have e1' : c1 = .int .i64 p1 := by simpa using e1
    subst e1'
    obtain ⟨p2, e2, _, w2⟩ := DataW.trod_int Tryz.underlying3 f2
    have e2' : c2 = .int .i64 p2 := by simpa using e2
    subst e2'
    obtain ⟨p3, e3, _, w3⟩ := DataW.trod_int Tryz.underlying3 f3
    have e3' : c3 = .int .i64 p3 := by simpa using e3
    subst e3'
    obtain ⟨p4, e4, _, w4⟩ := DataW.trod_int Tryz.underlying3 f4
    have e4' : c4 = .int .i64 p4 := by simpa using e4
    subst e4'
    exact ⟨p0, p1, p2, p3, p4, rfl, w0, w1, w2, w3, w4⟩
set_option maxRecDepth 100000 in
set_option maxHeartbeats 4000000 in
theorem open_vm {fuel : Nat} {cs : List Value} {x : DataW H × List MemPlace} (h : DataW.trod enc Tryz.prog w 0 (fun _ => true) true fuel 36 cs = some x) : ∃ k L, cs = (vmC k).toList ∧ IsVm w k L ∧ VmWf k := by
  obtain ⟨ys, n, _, _, hlen, hyl, hf⟩ := DataW.trod_struct Tryz.underlying36 h
  have h2 : cs.length = 23 := hlen.trans (by kernel_rfl)
  have hy2 : ys.length = 17 := hyl
  match cs, h2 with
  | [c0, c1, c2, c3, c4, c5, c6, c7, c8, c9, c10, c11, c12, c13, c14, c15, c16, c17, c18, c19, c20, c21, c22], _ =>
    have f0 : DataW.trod enc Tryz.prog w 0 (fun _ => true) true n 23 (([c0, c1, c2, c3, c4, c5, c6, c7, c8, c9, c10, c11, c12, c13, c14, c15, c16, c17, c18, c19, c20, c21, c22].drop 0).take (Tryz.prog.cellsOf 23)) = ys[0]? := hf 0 _ rfl
    rw [show Tryz.prog.cellsOf 23 = 5 by kernel_rfl] at f0
    rw [show ys[0]? = some (ys[0]'(by omega)) from List.getElem?_eq_getElem _] at f0
    have f1 : DataW.trod enc Tryz.prog w 0 (fun _ => true) true n 27 (([c0, c1, c2, c3, c4, c5, c6, c7, c8, c9, c10, c11, c12, c13, c14, c15, c16, c17, c18, c19, c20, c21, c22].drop 5).take (Tryz.prog.cellsOf 27)) = ys[1]? := hf 1 _ rfl
    rw [show Tryz.prog.cellsOf 27 = 2 by kernel_rfl] at f1
    rw [show ys[1]? = some (ys[1]'(by omega)) from List.getElem?_eq_getElem _] at f1
    have f2 : DataW.trod enc Tryz.prog w 0 (fun _ => true) true n 3 (([c0, c1, c2, c3, c4, c5, c6, c7, c8, c9, c10, c11, c12, c13, c14, c15, c16, c17, c18, c19, c20, c21, c22].drop 7).take (Tryz.prog.cellsOf 3)) = ys[2]? := hf 2 _ rfl
    rw [show Tryz.prog.cellsOf 3 = 1 by kernel_rfl] at f2
    rw [show ys[2]? = some (ys[2]'(by omega)) from List.getElem?_eq_getElem _] at f2
    have f3 : DataW.trod enc Tryz.prog w 0 (fun _ => true) true n 28 (([c0, c1, c2, c3, c4, c5, c6, c7, c8, c9, c10, c11, c12, c13, c14, c15, c16, c17, c18, c19, c20, c21, c22].drop 8).take (Tryz.prog.cellsOf 28)) = ys[3]? := hf 3 _ rfl
    rw [show Tryz.prog.cellsOf 28 = 1 by kernel_rfl] at f3
    rw [show ys[3]? = some (ys[3]'(by omega)) from List.getElem?_eq_getElem _] at f3
    have f4 : DataW.trod enc Tryz.prog w 0 (fun _ => true) true n 28 (([c0, c1, c2, c3, c4, c5, c6, c7, c8, c9, c10, c11, c12, c13, c14, c15, c16, c17, c18, c19, c20, c21, c22].drop 9).take (Tryz.prog.cellsOf 28)) = ys[4]? := hf 4 _ rfl
    rw [show Tryz.prog.cellsOf 28 = 1 by kernel_rfl] at f4
    rw [show ys[4]? = some (ys[4]'(by omega)) from List.getElem?_eq_getElem _] at f4
    have f5 : DataW.trod enc Tryz.prog w 0 (fun _ => true) true n 29 (([c0, c1, c2, c3, c4, c5, c6, c7, c8, c9, c10, c11, c12, c13, c14, c15, c16, c17, c18, c19, c20, c21, c22].drop 10).take (Tryz.prog.cellsOf 29)) = ys[5]? := hf 5 _ rfl
    rw [show Tryz.prog.cellsOf 29 = 1 by kernel_rfl] at f5
    rw [show ys[5]? = some (ys[5]'(by omega)) from List.getElem?_eq_getElem _] at f5
    have f6 : DataW.trod enc Tryz.prog w 0 (fun _ => true) true n 30 (([c0, c1, c2, c3, c4, c5, c6, c7, c8, c9, c10, c11, c12, c13, c14, c15, c16, c17, c18, c19, c20, c21, c22].drop 11).take (Tryz.prog.cellsOf 30)) = ys[6]? := hf 6 _ rfl
    rw [show Tryz.prog.cellsOf 30 = 1 by kernel_rfl] at f6
    rw [show ys[6]? = some (ys[6]'(by omega)) from List.getElem?_eq_getElem _] at f6
    have f7 : DataW.trod enc Tryz.prog w 0 (fun _ => true) true n 3 (([c0, c1, c2, c3, c4, c5, c6, c7, c8, c9, c10, c11, c12, c13, c14, c15, c16, c17, c18, c19, c20, c21, c22].drop 12).take (Tryz.prog.cellsOf 3)) = ys[7]? := hf 7 _ rfl
    rw [show Tryz.prog.cellsOf 3 = 1 by kernel_rfl] at f7
    rw [show ys[7]? = some (ys[7]'(by omega)) from List.getElem?_eq_getElem _] at f7
    have f8 : DataW.trod enc Tryz.prog w 0 (fun _ => true) true n 24 (([c0, c1, c2, c3, c4, c5, c6, c7, c8, c9, c10, c11, c12, c13, c14, c15, c16, c17, c18, c19, c20, c21, c22].drop 13).take (Tryz.prog.cellsOf 24)) = ys[8]? := hf 8 _ rfl
    rw [show Tryz.prog.cellsOf 24 = 1 by kernel_rfl] at f8
    rw [show ys[8]? = some (ys[8]'(by omega)) from List.getElem?_eq_getElem _] at f8
    have f9 : DataW.trod enc Tryz.prog w 0 (fun _ => true) true n 32 (([c0, c1, c2, c3, c4, c5, c6, c7, c8, c9, c10, c11, c12, c13, c14, c15, c16, c17, c18, c19, c20, c21, c22].drop 14).take (Tryz.prog.cellsOf 32)) = ys[9]? := hf 9 _ rfl
    rw [show Tryz.prog.cellsOf 32 = 2 by kernel_rfl] at f9
    rw [show ys[9]? = some (ys[9]'(by omega)) from List.getElem?_eq_getElem _] at f9
    have f10 : DataW.trod enc Tryz.prog w 0 (fun _ => true) true n 33 (([c0, c1, c2, c3, c4, c5, c6, c7, c8, c9, c10, c11, c12, c13, c14, c15, c16, c17, c18, c19, c20, c21, c22].drop 16).take (Tryz.prog.cellsOf 33)) = ys[10]? := hf 10 _ rfl
    rw [show Tryz.prog.cellsOf 33 = 1 by kernel_rfl] at f10
    rw [show ys[10]? = some (ys[10]'(by omega)) from List.getElem?_eq_getElem _] at f10
    have f11 : DataW.trod enc Tryz.prog w 0 (fun _ => true) true n 3 (([c0, c1, c2, c3, c4, c5, c6, c7, c8, c9, c10, c11, c12, c13, c14, c15, c16, c17, c18, c19, c20, c21, c22].drop 17).take (Tryz.prog.cellsOf 3)) = ys[11]? := hf 11 _ rfl
    rw [show Tryz.prog.cellsOf 3 = 1 by kernel_rfl] at f11
    rw [show ys[11]? = some (ys[11]'(by omega)) from List.getElem?_eq_getElem _] at f11
    have f12 : DataW.trod enc Tryz.prog w 0 (fun _ => true) true n 3 (([c0, c1, c2, c3, c4, c5, c6, c7, c8, c9, c10, c11, c12, c13, c14, c15, c16, c17, c18, c19, c20, c21, c22].drop 18).take (Tryz.prog.cellsOf 3)) = ys[12]? := hf 12 _ rfl
    rw [show Tryz.prog.cellsOf 3 = 1 by kernel_rfl] at f12
    rw [show ys[12]? = some (ys[12]'(by omega)) from List.getElem?_eq_getElem _] at f12
    have f13 : DataW.trod enc Tryz.prog w 0 (fun _ => true) true n 3 (([c0, c1, c2, c3, c4, c5, c6, c7, c8, c9, c10, c11, c12, c13, c14, c15, c16, c17, c18, c19, c20, c21, c22].drop 19).take (Tryz.prog.cellsOf 3)) = ys[13]? := hf 13 _ rfl
    rw [show Tryz.prog.cellsOf 3 = 1 by kernel_rfl] at f13
    rw [show ys[13]? = some (ys[13]'(by omega)) from List.getElem?_eq_getElem _] at f13
    have f14 : DataW.trod enc Tryz.prog w 0 (fun _ => true) true n 3 (([c0, c1, c2, c3, c4, c5, c6, c7, c8, c9, c10, c11, c12, c13, c14, c15, c16, c17, c18, c19, c20, c21, c22].drop 20).take (Tryz.prog.cellsOf 3)) = ys[14]? := hf 14 _ rfl
    rw [show Tryz.prog.cellsOf 3 = 1 by kernel_rfl] at f14
    rw [show ys[14]? = some (ys[14]'(by omega)) from List.getElem?_eq_getElem _] at f14
    have f15 : DataW.trod enc Tryz.prog w 0 (fun _ => true) true n 3 (([c0, c1, c2, c3, c4, c5, c6, c7, c8, c9, c10, c11, c12, c13, c14, c15, c16, c17, c18, c19, c20, c21, c22].drop 21).take (Tryz.prog.cellsOf 3)) = ys[15]? := hf 15 _ rfl
    rw [show Tryz.prog.cellsOf 3 = 1 by kernel_rfl] at f15
    rw [show ys[15]? = some (ys[15]'(by omega)) from List.getElem?_eq_getElem _] at f15
    have f16 : DataW.trod enc Tryz.prog w 0 (fun _ => true) true n 34 (([c0, c1, c2, c3, c4, c5, c6, c7, c8, c9, c10, c11, c12, c13, c14, c15, c16, c17, c18, c19, c20, c21, c22].drop 22).take (Tryz.prog.cellsOf 34)) = ys[16]? := hf 16 _ rfl
    rw [show Tryz.prog.cellsOf 34 = 1 by kernel_rfl] at f16
    rw [show ys[16]? = some (ys[16]'(by omega)) from List.getElem?_eq_getElem _] at f16
    obtain ⟨a0, a1, a2, a3, a4, e0, u0, u1, u2, u3, u4⟩ := open_conf f0
    obtain ⟨rfl, rfl, rfl, rfl, rfl⟩ : c0 = .int .i64 a0 ∧ c1 = .int .i64 a1 ∧ c2 = .int .i64 a2 ∧ c3 = .int .i64 a3 ∧ c4 = .int .i64 a4 := by simpa using e0
    obtain ⟨A1, L1, g1, P1, K1, d1, m1, e1, hm1⟩ := open_mem f1
    obtain ⟨rfl, rfl⟩ : c5 = .slice A1 L1 g1 ∧ c6 = .slice P1 K1 d1 := by simpa using e1
    obtain ⟨p2, e2, _, w2⟩ := DataW.trod_int Tryz.underlying3 f2
    have e2' : c7 = .int .i64 p2 := by simpa using e2
    subst e2'
    obtain ⟨B3, l3, z3, b3, e3, hb3⟩ := open_row f3
    have e3' : c8 = .slice B3 l3 z3 := e3
    subst e3'
    obtain ⟨B4, l4, z4, b4, e4, hb4⟩ := open_row f4
    have e4' : c9 = .slice B4 l4 z4 := e4
    subst e4'
    obtain ⟨B5, l5, z5, b5, e5, hb5⟩ := open_fms f5
    have e5' : c10 = .slice B5 l5 z5 := e5
    subst e5'
    obtain ⟨b6, hb6⟩ := open_wds f6
    obtain ⟨B6, l6, z6, e6⟩ := wds_slice hb6
    have e6' : c11 = .slice B6 l6 z6 := e6
    subst e6'
    obtain ⟨p7, e7, _, w7⟩ := DataW.trod_int Tryz.underlying3 f7
    have e7' : c12 = .int .i64 p7 := by simpa using e7
    subst e7'
    obtain ⟨b8, hb8⟩ := open_byt f8
    obtain ⟨B8, l8, z8, e8⟩ := hb8.slice
    have e8' : c13 = .slice B8 l8 z8 := e8
    subst e8'
    obtain ⟨A9, L9, g9, m9, p9, e9, hm9⟩ := open_pic f9
    obtain ⟨rfl, rfl⟩ : c14 = .slice A9 L9 g9 ∧ c15 = .bool p9 := by simpa using e9
    obtain ⟨B10, l10, z10, b10, e10, hb10⟩ := open_rqs f10
    have e10' : c16 = .slice B10 l10 z10 := e10
    subst e10'
    obtain ⟨p11, e11, _, w11⟩ := DataW.trod_int Tryz.underlying3 f11
    have e11' : c17 = .int .i64 p11 := by simpa using e11
    subst e11'
    obtain ⟨p12, e12, _, w12⟩ := DataW.trod_int Tryz.underlying3 f12
    have e12' : c18 = .int .i64 p12 := by simpa using e12
    subst e12'
    obtain ⟨p13, e13, _, w13⟩ := DataW.trod_int Tryz.underlying3 f13
    have e13' : c19 = .int .i64 p13 := by simpa using e13
    subst e13'
    obtain ⟨p14, e14, _, w14⟩ := DataW.trod_int Tryz.underlying3 f14
    have e14' : c20 = .int .i64 p14 := by simpa using e14
    subst e14'
    obtain ⟨p15, e15, _, w15⟩ := DataW.trod_int Tryz.underlying3 f15
    have e15' : c21 = .int .i64 p15 := by simpa using e15
    subst e15'
    obtain ⟨B16, l16, z16, b16, e16, hb16⟩ := open_hns f16
    have e16' : c22 = .slice B16 l16 z16 := e16
    subst e16'
    exact ⟨{ cm := a0, cd := a1, cr := a2, cw := a3, co := a4, mA := A1, mn := L1, mc := g1, pA := P1, pn := K1, pc := d1, here := p2, dA := B3, dn := l3, dc := z3, rA := B4, rn := l4, rc := z4, fA := B5, fn := l5, fc := z5, wA := B6, wn := l6, wc := z6, last := p7, oA := B8, on := l8, oc := z8, qA := A9, qn := L9, qc := g9, qo := p9, eA := B10, en := l10, ec := z10, free := p11, next := p12, arg := p13, self := p14, now := p15, hA := B16, hn := l16, hc := z16 }, { m := m1, d := b3, r := b4, f := b5, dict := b6, o := b8, q := m9, e := b10, h := b16 }, rfl, ⟨hm1, hb3, hb4, hb5, hb6, hb8, hm9, hb10, hb16⟩, ⟨u0, u1, u2, u3, u4, w2, w7, w11, w12, w13, w14, w15⟩⟩
end
end Go.Proofs.YtbighilgkmfemaaGreatDoor

/- The library's contract of strings.Fields, laid at this program's own numbers; the table of blanks that it reads. -/
namespace Go.Proofs
open Go.Shelf
def Tryz.fields_ren : Go.Shelf.Ren := ⟨fun | 157 => 44 | 199 => 92 | 229 => 91 | 261 => 120 | 311 => 124 | 312 => 125 | n => n, fun | 0 => 0 | 3 => 3 | 4 => 4 | 5 => 5 | 9 => 9 | 21 => 21 | 31 => 45 | 40 => 130 | 46 => 180 | 49 => 168 | 51 => 157 | 119 => 128 | 141 => 159 | 152 => 154 | 154 => 156 | 193 => 164 | 194 => 165 | 196 => 167 | 198 => 170 | 201 => 173 | 226 => 179 | 227 => 181 | n => n, fun | 0 => 0 | 6 => 1 | n => n⟩
theorem Tryz.fields_lays : Go.Proofs.Lays.n157 Tryz.prog Tryz.fields_ren := {
  mixed := by kernel_rfl
  f157 := Tryz.func44.trans (congrArg some (by kernel_rfl))
  f199 := Tryz.func92.trans (congrArg some (by kernel_rfl))
  f229 := Tryz.func91.trans (congrArg some (by kernel_rfl))
  f261 := Tryz.func120.trans (congrArg some (by kernel_rfl))
  f311 := Tryz.func124.trans (congrArg some (by kernel_rfl))
  f312 := Tryz.func125.trans (congrArg some (by kernel_rfl))
  t0 := Tryz.underlying0
  a0 := Tryz.isAgg0
  z0 := Tryz.sizeOf0
  v0 := Tryz.zeroValue0
  t3 := Tryz.underlying3
  a3 := Tryz.isAgg3
  z3 := Tryz.sizeOf3
  v3 := Tryz.zeroValue3
  t4 := Tryz.underlying4
  a4 := Tryz.isAgg4
  z4 := Tryz.sizeOf4
  v4 := Tryz.zeroValue4
  t5 := Tryz.underlying5
  a5 := Tryz.isAgg5
  z5 := Tryz.sizeOf5
  v5 := Tryz.zeroValue5
  t9 := Tryz.underlying9
  a9 := Tryz.isAgg9
  z9 := Tryz.sizeOf9
  v9 := Tryz.zeroValue9
  t21 := Tryz.underlying21
  a21 := Tryz.isAgg21
  z21 := Tryz.sizeOf21
  v21 := Tryz.zeroValue21
  t31 := Tryz.underlying45
  a31 := Tryz.isAgg45
  z31 := Tryz.sizeOf45
  v31 := Tryz.zeroValue45
  t40 := Tryz.underlying130
  a40 := Tryz.isAgg130
  z40 := Tryz.sizeOf130
  v40 := Tryz.zeroValue130
  t46 := Tryz.underlying180
  a46 := Tryz.isAgg180
  z46 := Tryz.sizeOf180
  v46 := Tryz.zeroValue180
  t49 := Tryz.underlying168
  a49 := Tryz.isAgg168
  z49 := Tryz.sizeOf168
  v49 := Tryz.zeroValue168
  t51 := Tryz.underlying157
  a51 := Tryz.isAgg157
  z51 := Tryz.sizeOf157
  v51 := Tryz.zeroValue157
  t119 := Tryz.underlying128
  a119 := Tryz.isAgg128
  z119 := Tryz.sizeOf128
  t141 := Tryz.underlying159
  a141 := Tryz.isAgg159
  z141 := Tryz.sizeOf159
  v141 := Tryz.zeroValue159
  t152 := Tryz.underlying154
  a152 := Tryz.isAgg154
  z152 := Tryz.sizeOf154
  v152 := Tryz.zeroValue154
  t154 := Tryz.underlying156
  a154 := Tryz.isAgg156
  z154 := Tryz.sizeOf156
  v154 := Tryz.zeroValue156
  t193 := Tryz.underlying164
  a193 := Tryz.isAgg164
  z193 := Tryz.sizeOf164
  v193 := Tryz.zeroValue164
  t194 := Tryz.underlying165
  a194 := Tryz.isAgg165
  z194 := Tryz.sizeOf165
  v194 := Tryz.zeroValue165
  t196 := Tryz.underlying167
  a196 := Tryz.isAgg167
  z196 := Tryz.sizeOf167
  v196 := Tryz.zeroValue167
  t198 := Tryz.underlying170
  a198 := Tryz.isAgg170
  z198 := Tryz.sizeOf170
  v198 := Tryz.zeroValue170
  t201 := Tryz.underlying173
  a201 := Tryz.isAgg173
  z201 := Tryz.sizeOf173
  v201 := Tryz.zeroValue173
  t226 := Tryz.underlying179
  a226 := Tryz.isAgg179
  z226 := Tryz.sizeOf179
  v226 := Tryz.zeroValue179
  t227 := Tryz.underlying181
  a227 := Tryz.isAgg181
  z227 := Tryz.sizeOf181
  v227 := Tryz.zeroValue181
  g0 := by kernel_rfl
  g6 := by kernel_rfl }
end Go.Proofs
namespace Go.Proofs.YtbighilgkmfemaaGreatDoor
open Go.RowKit Go.Lib Go.Shelf
set_option linter.unusedVariables false
set_option linter.unusedSimpArgs false

/-- The library's table of blanks, as it was laid. -/
def Tab (w : World) : Prop := ∀ c : Nat, c < 256 → w.cell? ⟨0, c, none⟩ = some (.int .u8 (if Lib.isSp (UInt8.ofNat c) then 1 else 0))
theorem Tab.keep {w w' : World} (h : Tab w) (b : Below w.heap.size w w') : Tab w' := fun c hc => (b.cell (p := ⟨0, c, none⟩) (World.block_lt_of_cell? _ _ (h c hc))).trans (h c hc)
theorem fields_hi : (Tryz.prog.info? (Tryz.fields_ren.t 9)).map (fun i => (i.zero, i.size, i.bytes)) = some (some (.string ByteArray.empty), 1, 16) := by kernel_rfl
theorem fields_any (l : List UInt8) (w : World) (hl : l.length < 4294967281) (ha : l.all (fun b => decide (b.toNat < 128)) = true) (ht : Tab w) (ls : List (List UInt8)) (hls : Lib.fields l = ls) :
    Calls Tryz.prog 44 #[.string (strB l)] w fun e w' => e = .returned (.slice (some ⟨w.heap.size, 0, none⟩) ls.length ls.length) ∧ w' = w.alloc (.cells (sts ls).toArray 9) := by
  have h := Any.strings_Fields_core Tryz.fields_lays fields_hi (strB l) w (by rw [strB_size]; exact hl) (fun j b hb => by
    have : b ∈ l := by
      have e : (strB l).data.toList = l := by simp [strB]
      rw [e] at hb
      exact List.mem_of_getElem? hb
    simpa using List.all_eq_true.1 ha b this) ht
  have e : (strB l).data.toList = l := by simp [strB]
  rw [e, hls] at h
  exact h
end Go.Proofs.YtbighilgkmfemaaGreatDoor

/- What the rows' list of variables gives: the library's table of blanks; a world that holds it. -/
namespace Go.Proofs.YtbighilgkmfemaaGreatDoor
open Go.RowKit Go.Lib Go.ChangeShapes Go.WideShapes Go.ChangeAt
set_option linter.unusedVariables false
set_option linter.unusedSimpArgs false

abbrev laidL : List (String × DataW Unit) := [("unicode.White_Space", Rows.laid_unicode_White_Space), ("strings.asciiSpace", Rows.laid_strings_asciiSpace)]
theorem gSpace : Tryz.prog.globalNamed "strings.asciiSpace" = some 0 := by kernel_rfl
theorem gSpaceType : (Tryz.prog.globals[0]?).map (·.type) = some 128 := by kernel_rfl
theorem cells_u8 : Tryz.prog.cellsOf 5 = 1 := by kernel_rfl
theorem cells_tab : Tryz.prog.cellsOf 128 = 256 := by kernel_rfl
theorem laid_is : (Rows.laid_strings_asciiSpace : DataW Unit) = tabData .u8 asciiSpaceTab := by kernel_rfl
/-- The table lies as it was laid. -/
theorem tab_of {W : World} (h : laidMetH Tryz.prog laidL W) : Tab W := by
  rw [MakeChecks.laidMetH_plain _ _ _ (by kernel_rfl)] at h
  obtain ⟨ps, ⟨g0, t0, cs0, f0, p0, q0, hg0, ht0, hv0, hd0, ⟨g1, t1, cs1, f1, p1, q1, hg1, ht1, hv1, hd1, _, _⟩, _⟩, _, _⟩ := h
  obtain rfl := Option.some.inj (gSpace.symm.trans hg1)
  obtain rfl := Option.some.inj (gSpaceType.symm.trans ht1)
  have hT : TabIs Tryz.prog W "strings.asciiSpace" .u8 asciiSpaceTab := by
    unfold TabIs
    rw [laid_is] at hd1
    rw [hv1, ← cells_of_tab Tryz.underlying128 Tryz.underlying5 cells_u8 cells_tab hd1]
  intro c hc
  rw [hT.cell gSpace c (by rw [asciiSpaceTab_length]; exact hc), asciiSpaceTab_at c hc]
/-- The door's own heap meets the condition. -/
theorem door_met (os : Os) (args : Array Value) : laidMetH Tryz.prog laidL ((World.doorLaid Tryz.prog 2000 os).forCall (fun _ _ => 0) ⟨#[], args, []⟩).memory :=
  laidMetH_of_parts3 (fuel := 8) (laidMet_of_run' 8 (by kernel_rfl) (by kernel_rfl)) (by kernel_rfl) (by kernel_rfl)
end Go.Proofs.YtbighilgkmfemaaGreatDoor

/- Contracts of the document's Push, Pop, RPush, RPop, Print. -/
namespace Go.Proofs.YtbighilgkmfemaaGreatDoor
open Go.RowKit
set_option linter.unusedVariables false
set_option linter.unusedSimpArgs false

set_option maxRecDepth 100000 in
set_option maxHeartbeats 4000000 in
theorem rvpush_any (k : VmK) (l : List Int) (x : Int) (w : World) (hn : k.dn ≤ 65536) (HR : Hid (Row w k.dA k.dn k.dc l)) :
    Calls Tryz.prog 27 #[vmV k, .int .i64 x] w fun e w' => ∃ B m d, e = .returned (.tuple #[vmV { k with dA := B, dn := m, dc := d }, .int .i64 (pushC l k.cd)]) ∧ Row w' B m d (pushL l x k.cd) ∧ Below w.heap.size w w' := by
  obtain ⟨o1, ho1⟩ : ∃ o1 : Obj, (.cells #[.int .i64 k.cm, .int .i64 k.cd, .int .i64 k.cr, .int .i64 k.cw, .int .i64 k.co, .slice k.mA k.mn k.mc, .slice k.pA k.pn k.pc, .int .i64 k.here, .slice k.dA k.dn k.dc, .slice k.rA k.rn k.rc, .slice k.fA k.fn k.fc, .slice k.wA k.wn k.wc, .int .i64 k.last, .slice k.oA k.on k.oc, .slice k.qA k.qn k.qc, .bool k.qo, .slice k.eA k.en k.ec, .int .i64 k.free, .int .i64 k.next, .int .i64 k.arg, .int .i64 k.self, .int .i64 k.now, .slice k.hA k.hn k.hc] 36) = o1 := ⟨_, rfl⟩
  obtain ⟨o2, ho2⟩ : ∃ o2 : Obj, (.cells #[.int .i64 0, .int .i64 0, .int .i64 0, .int .i64 0, .int .i64 0, .slice none 0 0, .slice none 0 0, .int .i64 0, .slice none 0 0, .slice none 0 0, .slice none 0 0, .slice none 0 0, .int .i64 0, .slice none 0 0, .slice none 0 0, .bool false, .slice none 0 0, .int .i64 0, .int .i64 0, .int .i64 0, .int .i64 0, .int .i64 0, .slice none 0 0] 36) = o2 := ⟨_, rfl⟩
  obtain ⟨W, hW⟩ : ∃ W, (w.alloc o1).alloc o2 = W := ⟨_, rfl⟩
  have kk := al_two w o1 o2
  have hx : VBox ((w.alloc o1).alloc o2) w.heap.size k ∧ VBox ((w.alloc o1).alloc o2) (w.heap.size + 1) vm0 := by rw [← ho1, ← ho2]; exact ⟨(vbox_new w k).keep (al_one _ _), by have := vbox_zero (w.alloc (.cells #[.int .i64 k.cm, .int .i64 k.cd, .int .i64 k.cr, .int .i64 k.cw, .int .i64 k.co, .slice k.mA k.mn k.mc, .slice k.pA k.pn k.pc, .int .i64 k.here, .slice k.dA k.dn k.dc, .slice k.rA k.rn k.rc, .slice k.fA k.fn k.fc, .slice k.wA k.wn k.wc, .int .i64 k.last, .slice k.oA k.on k.oc, .slice k.qA k.qn k.qc, .bool k.qo, .slice k.eA k.en k.ec, .int .i64 k.free, .int .i64 k.next, .int .i64 k.arg, .int .i64 k.self, .int .i64 k.now, .slice k.hA k.hn k.hc] 36)); rwa [World.size_alloc] at this⟩
  rw [hW] at kk hx
  have HB := Lib.hid kk
  have HP := Lib.hid hx.1
  have HX := Lib.hid hx.2
  have HW : Hid ((w.alloc (.cells #[.int .i64 k.cm, .int .i64 k.cd, .int .i64 k.cr, .int .i64 k.cw, .int .i64 k.co, .slice k.mA k.mn k.mc, .slice k.pA k.pn k.pc, .int .i64 k.here, .slice k.dA k.dn k.dc, .slice k.rA k.rn k.rc, .slice k.fA k.fn k.fc, .slice k.wA k.wn k.wc, .int .i64 k.last, .slice k.oA k.on k.oc, .slice k.qA k.qn k.qc, .bool k.qo, .slice k.eA k.en k.ec, .int .i64 k.free, .int .i64 k.next, .int .i64 k.arg, .int .i64 k.self, .int .i64 k.now, .slice k.hA k.hn k.hc] 36)).alloc (.cells #[.int .i64 0, .int .i64 0, .int .i64 0, .int .i64 0, .int .i64 0, .slice none 0 0, .slice none 0 0, .int .i64 0, .slice none 0 0, .slice none 0 0, .slice none 0 0, .slice none 0 0, .int .i64 0, .slice none 0 0, .slice none 0 0, .bool false, .slice none 0 0, .int .i64 0, .int .i64 0, .int .i64 0, .int .i64 0, .int .i64 0, .slice none 0 0] 36) = W) := by show _ = _; rw [ho1, ho2]; exact hW
  have HC := Lib.hid (rpushF_at k.dA k.dn k.dc x k.cd l W hn (Lib.hid (HR.out.keep kk)))
  have HS : Hid (W.heap.size = w.heap.size + 1 + 1) := by show _ = _; rw [← hW]; simp
  clear kk hx hW ho1 ho2
  go_enter Tryz.func27, Tryz.ntmps27
  go_wp2_with fail
  rw [HW.out]
  refine HC.out.mono ?_
  rintro e w1 ⟨B, m, d, rfl, hr, hf, bb⟩
  have XP := Lib.hid (HP.out.keep bb)
  have XZ := Lib.hid (HX.out.keep bb)
  obtain ⟨p0, p1, p2, p3, p4, p5, p6, p7, p8, p9, p10, p11, p12, p13, p14, p15, p16, p17, p18, p19, p20, p21, p22⟩ := XP.out.use
  obtain ⟨f0, f1, f2, f3, f4, f5, f6, f7, f8, f9, f10, f11, f12, f13, f14, f15, f16, f17, f18, f19, f20, f21, f22⟩ := XP.out.free
  have YP := Lib.hid (XP.out.set_d B m d)
  have YZ : Hid (VBox (w1.setCell ⟨w.heap.size, 8, none⟩ (.slice B m d)) (w.heap.size + 1) vm0) := by show VBox _ _ _; unfold VBox; rw [Below.heap_setCell _ _ _ _ (by simp)]; exact XZ.out
  have lp := XP.out.lt
  have HR1 := Lib.hid hr
  have HB1 := Lib.hid bb
  have HF1 := Lib.hid hf
  clear HC hr bb hf
  go_wp2_with (first
    | (refine wpList_load_row rfl 36 _ rfl w.heap.size rfl _ _ _ _ YP.out Tryz.underlying36 rfl (by kernel_rfl) ?_)
    | (refine wpList_store_row rfl 36 _ _ rfl (w.heap.size + 1) (vmC { k with dA := B, dn := m, dc := d }) rfl rfl _ _ YZ.out (by kernel_rfl) rfl (vm_one _) ?_))
  have YF := Lib.hid (vrow YZ.out { k with dA := B, dn := m, dc := d })
  refine bodyPost_ret (res_ct rfl _ _ _ _ rfl YF.out) rfl ⟨B, m, d, rfl, ?_, ?_⟩
  · refine HR.out.from HR1.out HF1.out HB.out.size (by simp [World.setRow, World.setCell]) fun g hg hlt => ?_
    rw [setRow_other _ _ _ _ (by have := HS.out; omega), Below.heap_setCell _ _ _ _ (by have := HS.out; show g ≠ w.heap.size; omega)]
  · exact below_setRow ((below_then HB.out HB1.out).setCell (p := ⟨w.heap.size, 8, none⟩) (Nat.le_refl _) _) (by omega) _
set_option maxRecDepth 100000 in
set_option maxHeartbeats 4000000 in
theorem rvpop_any (k : VmK) (l : List Int) (w : World) (hn : k.dn ≤ 65536) (HR : Hid (Row w k.dA k.dn k.dc l)) :
    Calls Tryz.prog 29 #[vmV k] w fun e w' => ∃ B m d, e = .returned (.tuple #[.int .i64 (popX l), vmV { k with dA := B, dn := m, dc := d }, .int .i64 (popC l)]) ∧ Row w' B m d (popL l) ∧ Below w.heap.size w w' := by
  obtain ⟨o1, ho1⟩ : ∃ o1 : Obj, (.cells #[.int .i64 k.cm, .int .i64 k.cd, .int .i64 k.cr, .int .i64 k.cw, .int .i64 k.co, .slice k.mA k.mn k.mc, .slice k.pA k.pn k.pc, .int .i64 k.here, .slice k.dA k.dn k.dc, .slice k.rA k.rn k.rc, .slice k.fA k.fn k.fc, .slice k.wA k.wn k.wc, .int .i64 k.last, .slice k.oA k.on k.oc, .slice k.qA k.qn k.qc, .bool k.qo, .slice k.eA k.en k.ec, .int .i64 k.free, .int .i64 k.next, .int .i64 k.arg, .int .i64 k.self, .int .i64 k.now, .slice k.hA k.hn k.hc] 36) = o1 := ⟨_, rfl⟩
  obtain ⟨o2, ho2⟩ : ∃ o2 : Obj, (.cells #[.int .i64 0, .int .i64 0, .int .i64 0, .int .i64 0, .int .i64 0, .slice none 0 0, .slice none 0 0, .int .i64 0, .slice none 0 0, .slice none 0 0, .slice none 0 0, .slice none 0 0, .int .i64 0, .slice none 0 0, .slice none 0 0, .bool false, .slice none 0 0, .int .i64 0, .int .i64 0, .int .i64 0, .int .i64 0, .int .i64 0, .slice none 0 0] 36) = o2 := ⟨_, rfl⟩
  obtain ⟨W, hW⟩ : ∃ W, (w.alloc o1).alloc o2 = W := ⟨_, rfl⟩
  have kk := al_two w o1 o2
  have hx : VBox ((w.alloc o1).alloc o2) w.heap.size k ∧ VBox ((w.alloc o1).alloc o2) (w.heap.size + 1) vm0 := by rw [← ho1, ← ho2]; exact ⟨(vbox_new w k).keep (al_one _ _), by have := vbox_zero (w.alloc (.cells #[.int .i64 k.cm, .int .i64 k.cd, .int .i64 k.cr, .int .i64 k.cw, .int .i64 k.co, .slice k.mA k.mn k.mc, .slice k.pA k.pn k.pc, .int .i64 k.here, .slice k.dA k.dn k.dc, .slice k.rA k.rn k.rc, .slice k.fA k.fn k.fc, .slice k.wA k.wn k.wc, .int .i64 k.last, .slice k.oA k.on k.oc, .slice k.qA k.qn k.qc, .bool k.qo, .slice k.eA k.en k.ec, .int .i64 k.free, .int .i64 k.next, .int .i64 k.arg, .int .i64 k.self, .int .i64 k.now, .slice k.hA k.hn k.hc] 36)); rwa [World.size_alloc] at this⟩
  rw [hW] at kk hx
  have HB := Lib.hid kk
  have HP := Lib.hid hx.1
  have HX := Lib.hid hx.2
  have HW : Hid ((w.alloc (.cells #[.int .i64 k.cm, .int .i64 k.cd, .int .i64 k.cr, .int .i64 k.cw, .int .i64 k.co, .slice k.mA k.mn k.mc, .slice k.pA k.pn k.pc, .int .i64 k.here, .slice k.dA k.dn k.dc, .slice k.rA k.rn k.rc, .slice k.fA k.fn k.fc, .slice k.wA k.wn k.wc, .int .i64 k.last, .slice k.oA k.on k.oc, .slice k.qA k.qn k.qc, .bool k.qo, .slice k.eA k.en k.ec, .int .i64 k.free, .int .i64 k.next, .int .i64 k.arg, .int .i64 k.self, .int .i64 k.now, .slice k.hA k.hn k.hc] 36)).alloc (.cells #[.int .i64 0, .int .i64 0, .int .i64 0, .int .i64 0, .int .i64 0, .slice none 0 0, .slice none 0 0, .int .i64 0, .slice none 0 0, .slice none 0 0, .slice none 0 0, .slice none 0 0, .int .i64 0, .slice none 0 0, .slice none 0 0, .bool false, .slice none 0 0, .int .i64 0, .int .i64 0, .int .i64 0, .int .i64 0, .int .i64 0, .slice none 0 0] 36) = W) := by show _ = _; rw [ho1, ho2]; exact hW
  have HC := Lib.hid (rpopF_at k.dA k.dn k.dc l W hn (Lib.hid (HR.out.keep kk)))
  have HS : Hid (W.heap.size = w.heap.size + 1 + 1) := by show _ = _; rw [← hW]; simp
  clear kk hx hW ho1 ho2
  go_enter Tryz.func29, Tryz.ntmps29
  go_wp2_with fail
  rw [HW.out]
  refine HC.out.mono ?_
  rintro e w1 ⟨B, m, d, rfl, hr, hf, bb⟩
  have XP := Lib.hid (HP.out.keep bb)
  have XZ := Lib.hid (HX.out.keep bb)
  obtain ⟨p0, p1, p2, p3, p4, p5, p6, p7, p8, p9, p10, p11, p12, p13, p14, p15, p16, p17, p18, p19, p20, p21, p22⟩ := XP.out.use
  obtain ⟨f0, f1, f2, f3, f4, f5, f6, f7, f8, f9, f10, f11, f12, f13, f14, f15, f16, f17, f18, f19, f20, f21, f22⟩ := XP.out.free
  have YP := Lib.hid (XP.out.set_d B m d)
  have YZ : Hid (VBox (w1.setCell ⟨w.heap.size, 8, none⟩ (.slice B m d)) (w.heap.size + 1) vm0) := by show VBox _ _ _; unfold VBox; rw [Below.heap_setCell _ _ _ _ (by simp)]; exact XZ.out
  have lp := XP.out.lt
  have HR1 := Lib.hid hr
  have HB1 := Lib.hid bb
  have HF1 := Lib.hid hf
  clear HC hr bb hf
  go_upto_region 3 with fail
  obtain ⟨V, hV⟩ : ∃ V, w1.setCell ⟨w.heap.size, 8, none⟩ (.slice B m d) = V := ⟨_, rfl⟩
  have hVs : V.heap.size = w1.heap.size := by rw [← hV]; simp [World.setCell]
  have hVg : ∀ g, g ≠ w.heap.size → V.heap[g]? = w1.heap[g]? := fun g hg => by rw [← hV]; exact Below.heap_setCell _ _ _ _ hg
  have hVB := (below_then HB.out HB1.out).setCell (p := ⟨w.heap.size, 8, none⟩) (Nat.le_refl _) (.slice B m d)
  rw [hV] at YP YZ hVB
  rw [hV]
  have HVS := Lib.hid hVs
  have HVG := Lib.hid hVg
  have HVB := Lib.hid hVB
  clear hV hVs hVg hVB
  refine wp_region_noPanic ?_
  refine wp_region_held_drew (S := fun a => VBox a w.heap.size { k with dA := B, dn := m, dc := d } ∧ ∃ j, VBox a (w.heap.size + 1) j) (by kernel_rfl) ?_ (fun hHeld => ?_)
  · exact ⟨YP.out, vm0, YZ.out⟩
  (refine wpAnyH_take (i := 0) (oi := _) (v := ?v0) rfl (by kernel_rfl) (by kernel_rfl) (by kernel_rfl) (fun _ _ _ h => h) (Or.inl ⟨by kernel_rfl, ?y0⟩) (by assumption) ?r0; case y0 => (intro w hSw; (try dsimp only at hSw); go_simp; (try with_reducible rfl))); (try simp only [List.getElem_toArray, List.getElem_cons_succ, List.getElem_cons_zero, Act.put, List.setIfInBounds_toArray, List.set_cons_zero, List.set_cons_succ])
  (refine wpAnyH_take (i := 2) (oi := _) (v := ?v2) rfl (by kernel_rfl) (by kernel_rfl) (by kernel_rfl) (fun _ _ _ h => h) (Or.inl ⟨by kernel_rfl, ?y2⟩) (by assumption) ?r2; case y2 => (intro w hSw; (try dsimp only at hSw); go_simp; (try with_reducible rfl))); (try simp only [List.getElem_toArray, List.getElem_cons_succ, List.getElem_cons_zero, Act.put, List.setIfInBounds_toArray, List.set_cons_zero, List.set_cons_succ])
  (refine wpAnyH_take (i := 3) (oi := _) (v := ?v3) rfl (by kernel_rfl) (by kernel_rfl) (by kernel_rfl) (fun _ _ _ h => h) (Or.inl ⟨by kernel_rfl, ?y3⟩) (by assumption) ?r3; case y3 => (intro w hSw; (try dsimp only at hSw); go_simp; (try with_reducible rfl))); (try simp only [List.getElem_toArray, List.getElem_cons_succ, List.getElem_cons_zero, Act.put, List.setIfInBounds_toArray, List.set_cons_zero, List.set_cons_succ])
  refine wpAnyH_ready (rs := [1]) (by kernel_rfl) (by simp) ?_
  refine AllReadyH.cons (o := _) rfl (fun K hK => ?_) AllReadyH.nil
  refine step_vload rfl _ rfl w.heap.size { k with dA := B, dn := m, dc := d } rfl hHeld.1 ?_
  refine hK.out _ _ hHeld (fun hHeld => ?_)
  clear hK K
  try simp only [List.getElem_toArray, List.getElem_cons_succ, List.getElem_cons_zero, Act.put, List.setIfInBounds_toArray, List.set_cons_zero, List.set_cons_succ]
  refine wpAnyH_ready (rs := [4]) (by kernel_rfl) (by simp) ?_
  refine AllReadyH.cons (o := _) rfl (fun K hK => ?_) AllReadyH.nil
  obtain ⟨hb1, j, hb2⟩ := hHeld
  refine step_vstore rfl _ _ rfl (w.heap.size + 1) j { k with dA := B, dn := m, dc := d } rfl rfl hb2 ?_
  have hb3 := vrow hb2 { k with dA := B, dn := m, dc := d }
  refine hK.out _ _ ⟨vrow_far hb1 (by omega) _, _, hb3⟩ (fun hHeld => ?_)
  clear hK K
  try simp only [List.getElem_toArray, List.getElem_cons_succ, List.getElem_cons_zero, Act.put, List.setIfInBounds_toArray, List.set_cons_zero, List.set_cons_succ]
  (refine wpAnyH_take (i := 5) (oi := _) (v := ?v5) rfl (by kernel_rfl) (by kernel_rfl) (by kernel_rfl) (fun _ _ _ h => h) (Or.inl ⟨by kernel_rfl, ?y5⟩) (by assumption) ?r5; case y5 => (intro w hSw; (try dsimp only at hSw); go_simp; (try with_reducible rfl))); (try simp only [List.getElem_toArray, List.getElem_cons_succ, List.getElem_cons_zero, Act.put, List.setIfInBounds_toArray, List.set_cons_zero, List.set_cons_succ])
  refine wpAnyH_done (by kernel_rfl) ?_ _
  refine NoPanic.normal ?_
  go_wp2_with fail
  refine bodyPost_ret (res_tct rfl _ _ _ _ rfl hb3) rfl ⟨B, m, d, rfl, ?_, ?_⟩
  · refine HR.out.from HR1.out HF1.out HB.out.size (by have := HVS.out; rw [size_setRow]; exact Nat.le_of_eq this.symm) fun g hg hlt => ?_
    rw [setRow_other _ _ _ _ (by have := HS.out; omega)]
    exact HVG.out g (by have := HS.out; omega)
  · exact below_setRow HVB.out.drew (by omega) _
end Go.Proofs.YtbighilgkmfemaaGreatDoor

/- Contracts of the document's RPush, RPop, Print. -/
namespace Go.Proofs.YtbighilgkmfemaaGreatDoor
open Go.RowKit
set_option linter.unusedVariables false
set_option linter.unusedSimpArgs false

def rpushC (l : List Int) (limit : Int) : Int := if limit ≤ (l.length : Int) then -5 else 0
set_option maxRecDepth 100000 in
set_option maxHeartbeats 4000000 in
theorem rvrpush_any (k : VmK) (l : List Int) (x : Int) (w : World) (hn : k.rn ≤ 65536) (HR : Hid (Row w k.rA k.rn k.rc l)) :
    Calls Tryz.prog 31 #[vmV k, .int .i64 x] w fun e w' => ∃ B m d, e = .returned (.tuple #[vmV { k with rA := B, rn := m, rc := d }, .int .i64 (rpushC l k.cr)]) ∧ Row w' B m d (pushL l x k.cr) ∧ Below w.heap.size w w' := by
  have hl := HR.out.1
  by_cases h : k.cr ≤ (k.rn : Int)
  · have H1 : Hid (rpushC l k.cr = -5) := if_pos (by rw [hl]; exact h)
    have H2 : Hid (pushL l x k.cr = l) := if_pos (by rw [hl]; exact h)
    rw [H1.out]
    have kr := al_two w (.cells #[.int .i64 k.cm, .int .i64 k.cd, .int .i64 k.cr, .int .i64 k.cw, .int .i64 k.co, .slice k.mA k.mn k.mc, .slice k.pA k.pn k.pc, .int .i64 k.here, .slice k.dA k.dn k.dc, .slice k.rA k.rn k.rc, .slice k.fA k.fn k.fc, .slice k.wA k.wn k.wc, .int .i64 k.last, .slice k.oA k.on k.oc, .slice k.qA k.qn k.qc, .bool k.qo, .slice k.eA k.en k.ec, .int .i64 k.free, .int .i64 k.next, .int .i64 k.arg, .int .i64 k.self, .int .i64 k.now, .slice k.hA k.hn k.hc] 36) (.cells #[.int .i64 0, .int .i64 0, .int .i64 0, .int .i64 0, .int .i64 0, .slice none 0 0, .slice none 0 0, .int .i64 0, .slice none 0 0, .slice none 0 0, .slice none 0 0, .slice none 0 0, .int .i64 0, .slice none 0 0, .slice none 0 0, .bool false, .slice none 0 0, .int .i64 0, .int .i64 0, .int .i64 0, .int .i64 0, .int .i64 0, .slice none 0 0] 36)
    have HPr : Hid (VBox ((w.alloc (.cells #[.int .i64 k.cm, .int .i64 k.cd, .int .i64 k.cr, .int .i64 k.cw, .int .i64 k.co, .slice k.mA k.mn k.mc, .slice k.pA k.pn k.pc, .int .i64 k.here, .slice k.dA k.dn k.dc, .slice k.rA k.rn k.rc, .slice k.fA k.fn k.fc, .slice k.wA k.wn k.wc, .int .i64 k.last, .slice k.oA k.on k.oc, .slice k.qA k.qn k.qc, .bool k.qo, .slice k.eA k.en k.ec, .int .i64 k.free, .int .i64 k.next, .int .i64 k.arg, .int .i64 k.self, .int .i64 k.now, .slice k.hA k.hn k.hc] 36)).alloc (.cells #[.int .i64 0, .int .i64 0, .int .i64 0, .int .i64 0, .int .i64 0, .slice none 0 0, .slice none 0 0, .int .i64 0, .slice none 0 0, .slice none 0 0, .slice none 0 0, .slice none 0 0, .int .i64 0, .slice none 0 0, .slice none 0 0, .bool false, .slice none 0 0, .int .i64 0, .int .i64 0, .int .i64 0, .int .i64 0, .int .i64 0, .slice none 0 0] 36)) w.heap.size k) := (vbox_new w k).keep (al_one _ _)
    have HXr : Hid (VBox ((w.alloc (.cells #[.int .i64 k.cm, .int .i64 k.cd, .int .i64 k.cr, .int .i64 k.cw, .int .i64 k.co, .slice k.mA k.mn k.mc, .slice k.pA k.pn k.pc, .int .i64 k.here, .slice k.dA k.dn k.dc, .slice k.rA k.rn k.rc, .slice k.fA k.fn k.fc, .slice k.wA k.wn k.wc, .int .i64 k.last, .slice k.oA k.on k.oc, .slice k.qA k.qn k.qc, .bool k.qo, .slice k.eA k.en k.ec, .int .i64 k.free, .int .i64 k.next, .int .i64 k.arg, .int .i64 k.self, .int .i64 k.now, .slice k.hA k.hn k.hc] 36)).alloc (.cells #[.int .i64 0, .int .i64 0, .int .i64 0, .int .i64 0, .int .i64 0, .slice none 0 0, .slice none 0 0, .int .i64 0, .slice none 0 0, .slice none 0 0, .slice none 0 0, .slice none 0 0, .int .i64 0, .slice none 0 0, .slice none 0 0, .bool false, .slice none 0 0, .int .i64 0, .int .i64 0, .int .i64 0, .int .i64 0, .int .i64 0, .slice none 0 0] 36)) (w.heap.size + 1) vm0) := by have := vbox_zero (w.alloc (.cells #[.int .i64 k.cm, .int .i64 k.cd, .int .i64 k.cr, .int .i64 k.cw, .int .i64 k.co, .slice k.mA k.mn k.mc, .slice k.pA k.pn k.pc, .int .i64 k.here, .slice k.dA k.dn k.dc, .slice k.rA k.rn k.rc, .slice k.fA k.fn k.fc, .slice k.wA k.wn k.wc, .int .i64 k.last, .slice k.oA k.on k.oc, .slice k.qA k.qn k.qc, .bool k.qo, .slice k.eA k.en k.ec, .int .i64 k.free, .int .i64 k.next, .int .i64 k.arg, .int .i64 k.self, .int .i64 k.now, .slice k.hA k.hn k.hc] 36)); rw [World.size_alloc] at this; exact this
    have HBr := Lib.hid kr
    clear hl kr
    go_enter Tryz.func31, Tryz.ntmps31
    go_wp2_with (first
    | (refine wpList_load_row rfl 36 _ rfl w.heap.size rfl _ _ _ _ HPr.out Tryz.underlying36 rfl (by kernel_rfl) ?_)
    | (refine wpList_store_row rfl 36 _ _ rfl (w.heap.size + 1) (vmC k) rfl rfl _ _ HXr.out (by kernel_rfl) rfl (vm_one _) ?_))
    refine bodyPost_ret (res_ct rfl _ _ _ _ rfl (vrow HXr.out k)) rfl ⟨k.rA, k.rn, k.rc, rfl, ?_, ?_⟩
    · rw [H2.out]
      exact HR.out.keep (below_setRow HBr.out (by omega) _)
    · exact below_setRow HBr.out (by omega) _
  · have H1 : Hid (rpushC l k.cr = 0) := if_neg (by rw [hl]; exact h)
    have H2 : Hid (pushL l x k.cr = l ++ [x]) := if_neg (by rw [hl]; exact h)
    rw [H1.out]
    have h' : decide (k.cr ≤ (k.rn : Int)) = false := by simp; omega
    obtain ⟨o1, ho1⟩ : ∃ o1 : Obj, (.cells #[.int .i64 k.cm, .int .i64 k.cd, .int .i64 k.cr, .int .i64 k.cw, .int .i64 k.co, .slice k.mA k.mn k.mc, .slice k.pA k.pn k.pc, .int .i64 k.here, .slice k.dA k.dn k.dc, .slice k.rA k.rn k.rc, .slice k.fA k.fn k.fc, .slice k.wA k.wn k.wc, .int .i64 k.last, .slice k.oA k.on k.oc, .slice k.qA k.qn k.qc, .bool k.qo, .slice k.eA k.en k.ec, .int .i64 k.free, .int .i64 k.next, .int .i64 k.arg, .int .i64 k.self, .int .i64 k.now, .slice k.hA k.hn k.hc] 36) = o1 := ⟨_, rfl⟩
    obtain ⟨o2, ho2⟩ : ∃ o2 : Obj, (.cells #[.int .i64 0, .int .i64 0, .int .i64 0, .int .i64 0, .int .i64 0, .slice none 0 0, .slice none 0 0, .int .i64 0, .slice none 0 0, .slice none 0 0, .slice none 0 0, .slice none 0 0, .int .i64 0, .slice none 0 0, .slice none 0 0, .bool false, .slice none 0 0, .int .i64 0, .int .i64 0, .int .i64 0, .int .i64 0, .int .i64 0, .slice none 0 0] 36) = o2 := ⟨_, rfl⟩
    obtain ⟨W, hW⟩ : ∃ W, (w.alloc o1).alloc o2 = W := ⟨_, rfl⟩
    have kk := al_two w o1 o2
    have hx : VBox ((w.alloc o1).alloc o2) w.heap.size k ∧ VBox ((w.alloc o1).alloc o2) (w.heap.size + 1) vm0 := by rw [← ho1, ← ho2]; exact ⟨(vbox_new w k).keep (al_one _ _), by have := vbox_zero (w.alloc (.cells #[.int .i64 k.cm, .int .i64 k.cd, .int .i64 k.cr, .int .i64 k.cw, .int .i64 k.co, .slice k.mA k.mn k.mc, .slice k.pA k.pn k.pc, .int .i64 k.here, .slice k.dA k.dn k.dc, .slice k.rA k.rn k.rc, .slice k.fA k.fn k.fc, .slice k.wA k.wn k.wc, .int .i64 k.last, .slice k.oA k.on k.oc, .slice k.qA k.qn k.qc, .bool k.qo, .slice k.eA k.en k.ec, .int .i64 k.free, .int .i64 k.next, .int .i64 k.arg, .int .i64 k.self, .int .i64 k.now, .slice k.hA k.hn k.hc] 36)); rwa [World.size_alloc] at this⟩
    rw [hW] at kk hx
    have HB := Lib.hid kk
    have HP := Lib.hid hx.1
    have HX := Lib.hid hx.2
    have HW : Hid ((w.alloc (.cells #[.int .i64 k.cm, .int .i64 k.cd, .int .i64 k.cr, .int .i64 k.cw, .int .i64 k.co, .slice k.mA k.mn k.mc, .slice k.pA k.pn k.pc, .int .i64 k.here, .slice k.dA k.dn k.dc, .slice k.rA k.rn k.rc, .slice k.fA k.fn k.fc, .slice k.wA k.wn k.wc, .int .i64 k.last, .slice k.oA k.on k.oc, .slice k.qA k.qn k.qc, .bool k.qo, .slice k.eA k.en k.ec, .int .i64 k.free, .int .i64 k.next, .int .i64 k.arg, .int .i64 k.self, .int .i64 k.now, .slice k.hA k.hn k.hc] 36)).alloc (.cells #[.int .i64 0, .int .i64 0, .int .i64 0, .int .i64 0, .int .i64 0, .slice none 0 0, .slice none 0 0, .int .i64 0, .slice none 0 0, .slice none 0 0, .slice none 0 0, .slice none 0 0, .int .i64 0, .slice none 0 0, .slice none 0 0, .bool false, .slice none 0 0, .int .i64 0, .int .i64 0, .int .i64 0, .int .i64 0, .int .i64 0, .slice none 0 0] 36) = W) := by show _ = _; rw [ho1, ho2]; exact hW
    have hS : W.heap.size = w.heap.size + 1 + 1 := by rw [← hW]; simp
    have hO := none_owns W
    rw [hS] at hO
    have HO0 := Lib.hid hO
    have HRW := Lib.hid (HR.out.keep (below_then kk (below_one W (.cells #[] 3))))
    have HS := Lib.hid hS
    have hn1 : k.rn ≤ 65536 := hn
    clear hl h kk hx hW ho1 ho2 hS hO
    go_enter Tryz.func31, Tryz.ntmps31
    have tok1 : True := trivial
    go_wp2_with (first
    | (at_builtin; have _t := tok1; rw [HW.out]; (refine wpList_app rfl _ _ rfl (w.heap.size + 1 + 1) (.slice (some ⟨w.heap.size + 1 + 1, 0, none⟩) 0 0) 0 [] rfl HO0.out k.rA k.rn k.rc l rfl HRW.out (by omega) (by have := HS.out; simp; omega) W (below_one _ _) (by have := HS.out; omega) ?_; intro v1 w1 ho b1; have HO := Lib.hid ho; have HB1 := Lib.hid b1; clear ho b1 tok1))
    | (at_builtin; (refine wpList_app rfl _ _ rfl (w.heap.size + 1 + 1) v1 _ _ rfl (HO.out.alloc _) (some ⟨w1.heap.size, 0, none⟩) 1 1 [x] rfl (one_row w1 x) (by omega) (by have := HS.out; have := HB1.out.size; simp; omega) W (below_then HB1.out (below_one _ _)) (by have := HS.out; omega) ?_; intro v2 w2 ho b2; (obtain ⟨B, d, rfl, hr⟩ := ho.row); have HF := Lib.hid (from_own (w := W) (A := k.rA) (n' := k.rn) (c := k.rc) ho (by have := HS.out; omega) rfl); have HR2 := Lib.hid hr; have HB2 := Lib.hid b2; have XP := Lib.hid (HP.out.keep b2); have YP := Lib.hid (XP.out.set_r B (k.rn + 1) d); have YZ : Hid (VBox (w2.setCell ⟨w.heap.size, 9, none⟩ (.slice B (k.rn + 1) d)) (w.heap.size + 1) vm0) := (by show VBox _ _ _; unfold VBox; rw [Below.heap_setCell _ _ _ _ (by simp)]; exact HX.out.keep b2); (obtain ⟨p0, p1, p2, p3, p4, p5, p6, p7, p8, p9, p10, p11, p12, p13, p14, p15, p16, p17, p18, p19, p20, p21, p22⟩ := XP.out.use); (obtain ⟨f0, f1, f2, f3, f4, f5, f6, f7, f8, f9, f10, f11, f12, f13, f14, f15, f16, f17, f18, f19, f20, f21, f22⟩ := XP.out.free); have lp := XP.out.lt; clear ho hr b2))
    | (refine wpList_load_row rfl 36 _ rfl w.heap.size rfl _ _ _ _ YP.out Tryz.underlying36 rfl (by kernel_rfl) ?_)
    | (refine wpList_store_row rfl 36 _ _ rfl (w.heap.size + 1) (vmC { k with rA := B, rn := k.rn + 1, rc := d }) rfl rfl _ _ YZ.out (by kernel_rfl) rfl (vm_one _) ?_))
    have YF := Lib.hid (vrow YZ.out { k with rA := B, rn := k.rn + 1, rc := d })
    refine bodyPost_ret (res_ct rfl _ _ _ _ rfl YF.out) rfl ⟨B, k.rn + 1, d, rfl, ?_, ?_⟩
    · rw [H2.out]
      have hr2 := HR2.out
      have hf2 := HF.out
      rw [Nat.zero_add] at hr2 hf2
      rw [List.nil_append] at hr2
      refine HR.out.from hr2 hf2 HB.out.size (by rw [size_setRow]; simp [World.setCell]) fun g hg hlt => ?_
      rw [setRow_other _ _ _ _ (by have := HS.out; omega), Below.heap_setCell _ _ _ _ (by have := HS.out; show g ≠ w.heap.size; omega)]
    · exact below_setRow ((below_then HB.out HB2.out).setCell (p := ⟨w.heap.size, 9, none⟩) (Nat.le_refl _) _) (by omega) _
def rpopC (l : List Int) : Int := if l.length = 0 then -6 else 0
set_option maxRecDepth 100000 in
set_option maxHeartbeats 4000000 in
theorem rvrpop_any (k : VmK) (l : List Int) (w : World) (hn : k.rn ≤ 65536) (HR : Hid (Row w k.rA k.rn k.rc l)) :
    Calls Tryz.prog 33 #[vmV k] w fun e w' => ∃ B m d, e = .returned (.tuple #[.int .i64 (popX l), vmV { k with rA := B, rn := m, rc := d }, .int .i64 (rpopC l)]) ∧ Row w' B m d (popL l) ∧ Below w.heap.size w w' := by
  have hl := HR.out.1
  have hc := HR.out.2.1
  have hm := HR.out.2.2.1
  unfold maxLen at hm
  by_cases h : k.rn = 0
  · obtain rfl : l = [] := List.eq_nil_of_length_eq_zero (by omega)
    have hz : ((k.rn : Int) == 0) = true := by simp; omega
    obtain ⟨o1, ho1⟩ : ∃ o1 : Obj, (.cells #[.int .i64 k.cm, .int .i64 k.cd, .int .i64 k.cr, .int .i64 k.cw, .int .i64 k.co, .slice k.mA k.mn k.mc, .slice k.pA k.pn k.pc, .int .i64 k.here, .slice k.dA k.dn k.dc, .slice k.rA k.rn k.rc, .slice k.fA k.fn k.fc, .slice k.wA k.wn k.wc, .int .i64 k.last, .slice k.oA k.on k.oc, .slice k.qA k.qn k.qc, .bool k.qo, .slice k.eA k.en k.ec, .int .i64 k.free, .int .i64 k.next, .int .i64 k.arg, .int .i64 k.self, .int .i64 k.now, .slice k.hA k.hn k.hc] 36) = o1 := ⟨_, rfl⟩
    obtain ⟨o2, ho2⟩ : ∃ o2 : Obj, (.cells #[.int .i64 0, .int .i64 0, .int .i64 0, .int .i64 0, .int .i64 0, .slice none 0 0, .slice none 0 0, .int .i64 0, .slice none 0 0, .slice none 0 0, .slice none 0 0, .slice none 0 0, .int .i64 0, .slice none 0 0, .slice none 0 0, .bool false, .slice none 0 0, .int .i64 0, .int .i64 0, .int .i64 0, .int .i64 0, .int .i64 0, .slice none 0 0] 36) = o2 := ⟨_, rfl⟩
    obtain ⟨W, hW⟩ : ∃ W, (w.alloc o1).alloc o2 = W := ⟨_, rfl⟩
    have kk := al_two w o1 o2
    have hx : VBox ((w.alloc o1).alloc o2) w.heap.size k ∧ VBox ((w.alloc o1).alloc o2) (w.heap.size + 1) vm0 := by rw [← ho1, ← ho2]; exact ⟨(vbox_new w k).keep (al_one _ _), by have := vbox_zero (w.alloc (.cells #[.int .i64 k.cm, .int .i64 k.cd, .int .i64 k.cr, .int .i64 k.cw, .int .i64 k.co, .slice k.mA k.mn k.mc, .slice k.pA k.pn k.pc, .int .i64 k.here, .slice k.dA k.dn k.dc, .slice k.rA k.rn k.rc, .slice k.fA k.fn k.fc, .slice k.wA k.wn k.wc, .int .i64 k.last, .slice k.oA k.on k.oc, .slice k.qA k.qn k.qc, .bool k.qo, .slice k.eA k.en k.ec, .int .i64 k.free, .int .i64 k.next, .int .i64 k.arg, .int .i64 k.self, .int .i64 k.now, .slice k.hA k.hn k.hc] 36)); rwa [World.size_alloc] at this⟩
    rw [hW] at kk hx
    have HB := Lib.hid kk
    have HP := Lib.hid hx.1
    have HX := Lib.hid hx.2
    have HW : Hid ((w.alloc (.cells #[.int .i64 k.cm, .int .i64 k.cd, .int .i64 k.cr, .int .i64 k.cw, .int .i64 k.co, .slice k.mA k.mn k.mc, .slice k.pA k.pn k.pc, .int .i64 k.here, .slice k.dA k.dn k.dc, .slice k.rA k.rn k.rc, .slice k.fA k.fn k.fc, .slice k.wA k.wn k.wc, .int .i64 k.last, .slice k.oA k.on k.oc, .slice k.qA k.qn k.qc, .bool k.qo, .slice k.eA k.en k.ec, .int .i64 k.free, .int .i64 k.next, .int .i64 k.arg, .int .i64 k.self, .int .i64 k.now, .slice k.hA k.hn k.hc] 36)).alloc (.cells #[.int .i64 0, .int .i64 0, .int .i64 0, .int .i64 0, .int .i64 0, .slice none 0 0, .slice none 0 0, .int .i64 0, .slice none 0 0, .slice none 0 0, .slice none 0 0, .slice none 0 0, .int .i64 0, .slice none 0 0, .slice none 0 0, .bool false, .slice none 0 0, .int .i64 0, .int .i64 0, .int .i64 0, .int .i64 0, .int .i64 0, .slice none 0 0] 36) = W) := by show _ = _; rw [ho1, ho2]; exact hW
    have YP := HP
    have YZ := HX
    clear hl hc hm kk hx hW ho1 ho2 h
    go_enter Tryz.func33, Tryz.ntmps33
    go_upto_region 2 with fail
    rw [HW.out]
    refine wp_region_noPanic ?_
    refine wp_region_held_drew (S := fun a => VBox a w.heap.size k ∧ ∃ j, VBox a (w.heap.size + 1) j) (by kernel_rfl) ?_ (fun hHeld => ?_)
    · exact ⟨YP.out, vm0, YZ.out⟩
    (refine wpAnyH_take (i := 1) (oi := _) (v := ?v1) rfl (by kernel_rfl) (by kernel_rfl) (by kernel_rfl) (fun _ _ _ h => h) (Or.inl ⟨by kernel_rfl, ?y1⟩) (by assumption) ?r1; case y1 => (intro w hSw; (try dsimp only at hSw); go_simp; (try with_reducible rfl))); (try simp only [List.getElem_toArray, List.getElem_cons_succ, List.getElem_cons_zero, Act.put, List.setIfInBounds_toArray, List.set_cons_zero, List.set_cons_succ])
    refine wpAnyH_ready (rs := [0]) (by kernel_rfl) (by simp) ?_
    refine AllReadyH.cons (o := _) rfl (fun K hK => ?_) AllReadyH.nil
    refine step_vload rfl _ rfl w.heap.size k rfl hHeld.1 ?_
    refine hK.out _ _ hHeld (fun hHeld => ?_)
    clear hK K
    try simp only [List.getElem_toArray, List.getElem_cons_succ, List.getElem_cons_zero, Act.put, List.setIfInBounds_toArray, List.set_cons_zero, List.set_cons_succ]
    refine wpAnyH_ready (rs := [2]) (by kernel_rfl) (by simp) ?_
    refine AllReadyH.cons (o := _) rfl (fun K hK => ?_) AllReadyH.nil
    obtain ⟨hb1, j, hb2⟩ := hHeld
    refine step_vstore rfl _ _ rfl (w.heap.size + 1) j k rfl rfl hb2 ?_
    have hb3 := vrow hb2 k
    refine hK.out _ _ ⟨vrow_far hb1 (by omega) _, _, hb3⟩ (fun hHeld => ?_)
    clear hK K
    try simp only [List.getElem_toArray, List.getElem_cons_succ, List.getElem_cons_zero, Act.put, List.setIfInBounds_toArray, List.set_cons_zero, List.set_cons_succ]
    (refine wpAnyH_take (i := 3) (oi := _) (v := ?v3) rfl (by kernel_rfl) (by kernel_rfl) (by kernel_rfl) (fun _ _ _ h => h) (Or.inl ⟨by kernel_rfl, ?y3⟩) (by assumption) ?r3; case y3 => (intro w hSw; (try dsimp only at hSw); go_simp; (try with_reducible rfl))); (try simp only [List.getElem_toArray, List.getElem_cons_succ, List.getElem_cons_zero, Act.put, List.setIfInBounds_toArray, List.set_cons_zero, List.set_cons_succ])
    refine wpAnyH_done (by kernel_rfl) ?_ _
    refine NoPanic.normal ?_
    go_wp2_with fail
    refine bodyPost_ret (res_tct rfl _ _ _ _ rfl hb3) rfl ⟨k.rA, k.rn, k.rc, rfl, ?_, ?_⟩
    · exact HR.out.keep (below_setRow HB.out.drew (by omega) _)
    · exact below_setRow HB.out.drew (by omega) _
  · obtain ⟨m, hm1⟩ : ∃ m, k.rn = m + 1 := ⟨k.rn - 1, by omega⟩
    have hz : ((k.rn : Int) == 0) = false := by simp; omega
    obtain ⟨g, o, hA, hg, hce⟩ := HR.out.cells (by omega)
    have k0 := hce m (by omega)
    obtain ⟨y, hy⟩ : ∃ y, l.getD m 0 = y := ⟨_, rfl⟩
    rw [hy] at k0
    obtain ⟨h1, h2, h3⟩ := pop_some (l := l) (k := m) (by omega)
    have H1 : Hid (popX l = y) := by show _ = _; rw [h1, hy]
    have H3 : Hid (rpopC l = 0) := if_neg (by omega)
    have HT := Lib.hid (HR.out.high (k := m) (by omega))
    rw [hA] at HT
    have H2 := Lib.hid h2
    rw [H1.out, H3.out]
    obtain ⟨o1, ho1⟩ : ∃ o1 : Obj, (.cells #[.int .i64 k.cm, .int .i64 k.cd, .int .i64 k.cr, .int .i64 k.cw, .int .i64 k.co, .slice k.mA k.mn k.mc, .slice k.pA k.pn k.pc, .int .i64 k.here, .slice k.dA k.dn k.dc, .slice k.rA k.rn k.rc, .slice k.fA k.fn k.fc, .slice k.wA k.wn k.wc, .int .i64 k.last, .slice k.oA k.on k.oc, .slice k.qA k.qn k.qc, .bool k.qo, .slice k.eA k.en k.ec, .int .i64 k.free, .int .i64 k.next, .int .i64 k.arg, .int .i64 k.self, .int .i64 k.now, .slice k.hA k.hn k.hc] 36) = o1 := ⟨_, rfl⟩
    obtain ⟨o2, ho2⟩ : ∃ o2 : Obj, (.cells #[.int .i64 0, .int .i64 0, .int .i64 0, .int .i64 0, .int .i64 0, .slice none 0 0, .slice none 0 0, .int .i64 0, .slice none 0 0, .slice none 0 0, .slice none 0 0, .slice none 0 0, .int .i64 0, .slice none 0 0, .slice none 0 0, .bool false, .slice none 0 0, .int .i64 0, .int .i64 0, .int .i64 0, .int .i64 0, .int .i64 0, .slice none 0 0] 36) = o2 := ⟨_, rfl⟩
    obtain ⟨W, hW⟩ : ∃ W, (w.alloc o1).alloc o2 = W := ⟨_, rfl⟩
    have kk := al_two w o1 o2
    have hx : VBox ((w.alloc o1).alloc o2) w.heap.size k ∧ VBox ((w.alloc o1).alloc o2) (w.heap.size + 1) vm0 := by rw [← ho1, ← ho2]; exact ⟨(vbox_new w k).keep (al_one _ _), by have := vbox_zero (w.alloc (.cells #[.int .i64 k.cm, .int .i64 k.cd, .int .i64 k.cr, .int .i64 k.cw, .int .i64 k.co, .slice k.mA k.mn k.mc, .slice k.pA k.pn k.pc, .int .i64 k.here, .slice k.dA k.dn k.dc, .slice k.rA k.rn k.rc, .slice k.fA k.fn k.fc, .slice k.wA k.wn k.wc, .int .i64 k.last, .slice k.oA k.on k.oc, .slice k.qA k.qn k.qc, .bool k.qo, .slice k.eA k.en k.ec, .int .i64 k.free, .int .i64 k.next, .int .i64 k.arg, .int .i64 k.self, .int .i64 k.now, .slice k.hA k.hn k.hc] 36)); rwa [World.size_alloc] at this⟩
    rw [hW] at kk hx
    have HB := Lib.hid kk
    have HP := Lib.hid hx.1
    have HX := Lib.hid hx.2
    have HW : Hid ((w.alloc (.cells #[.int .i64 k.cm, .int .i64 k.cd, .int .i64 k.cr, .int .i64 k.cw, .int .i64 k.co, .slice k.mA k.mn k.mc, .slice k.pA k.pn k.pc, .int .i64 k.here, .slice k.dA k.dn k.dc, .slice k.rA k.rn k.rc, .slice k.fA k.fn k.fc, .slice k.wA k.wn k.wc, .int .i64 k.last, .slice k.oA k.on k.oc, .slice k.qA k.qn k.qc, .bool k.qo, .slice k.eA k.en k.ec, .int .i64 k.free, .int .i64 k.next, .int .i64 k.arg, .int .i64 k.self, .int .i64 k.now, .slice k.hA k.hn k.hc] 36)).alloc (.cells #[.int .i64 0, .int .i64 0, .int .i64 0, .int .i64 0, .int .i64 0, .slice none 0 0, .slice none 0 0, .int .i64 0, .slice none 0 0, .slice none 0 0, .slice none 0 0, .slice none 0 0, .int .i64 0, .slice none 0 0, .slice none 0 0, .bool false, .slice none 0 0, .int .i64 0, .int .i64 0, .int .i64 0, .int .i64 0, .int .i64 0, .slice none 0 0] 36) = W) := by show _ = _; rw [ho1, ho2]; exact hW
    have hS : W.heap.size = w.heap.size + 1 + 1 := by rw [← hW]; simp
    have HO0 := Lib.hid (none_owns W)
    have HTW := Lib.hid (HT.out.keep (below_then kk (below_one W (.cells #[] 3))))
    have HS := Lib.hid hS
    have c0 : W.cell? ⟨g, o + m, none⟩ = some (.int .i64 y) := (kk.cell (p := ⟨g, o + m, none⟩) hg).trans k0
    have p9 := hx.1.use.2.2.2.2.2.2.2.2.2.1
    have f9 := hx.1.free.2.2.2.2.2.2.2.2.2.1
    have lb := hx.1.lt
    rw [hA, hm1] at p9
    have hkc : (m : Int) ≤ (k.rc : Int) := by omega
    have hk1 : (m : Int) < (m : Int) + 1 := by omega
    have hn1 : m ≤ 65536 := by omega
    have hm9 : k.rc ≤ 9223372036854775807 := hm
    have HK := Lib.hid hm1
    have HAA := Lib.hid hA
    clear hl hc kk hx hW ho1 ho2 h hS h1 h2 h3 hy k0 hce hm1 hA hm
    go_enter Tryz.func33, Tryz.ntmps33
    go_upto_region 3 with fail
    rw [HW.out]
    go_upto_region 5 with (first
    | (at_builtin; (refine wpList_app rfl _ _ rfl W.heap.size (.slice (some ⟨W.heap.size, 0, none⟩) 0 0) 0 [] rfl HO0.out (some ⟨g, o, none⟩) m k.rc (l.take m) rfl HTW.out (by omega) (by simp) W (below_one _ _) (Nat.le_refl _) ?_; intro v2 w2 ho b2; (obtain ⟨B, d, rfl, hr⟩ := ho.row); have HF := Lib.hid (from_own (w := W) (A := k.rA) (n' := k.rn) (c := k.rc) ho (Nat.le_refl _) rfl); have HR2 := Lib.hid hr; have HB2 := Lib.hid b2; have XP := Lib.hid (HP.out.keep b2); have YP0 := Lib.hid (XP.out.set_r B m d); have YZ0 : Hid (VBox (w2.setCell ⟨w.heap.size, 9, none⟩ (.slice B m d)) (w.heap.size + 1) vm0) := (by show VBox _ _ _; unfold VBox; rw [Below.heap_setCell _ _ _ _ (by simp)]; exact HX.out.keep b2); have q9 := XP.out.use.2.2.2.2.2.2.2.2.2.1; have g9 := XP.out.free.2.2.2.2.2.2.2.2.2.1; have lp := XP.out.lt; clear ho hr b2 p9 f9)))
    obtain ⟨V, hV⟩ : ∃ V, w2.setCell ⟨w.heap.size, 9, none⟩ (.slice B m d) = V := ⟨_, rfl⟩
    have hVs : V.heap.size = w2.heap.size := by rw [← hV]; simp [World.setCell]
    have hVg : ∀ g, g ≠ w.heap.size → V.heap[g]? = w2.heap[g]? := fun g hg => by rw [← hV]; exact Below.heap_setCell _ _ _ _ hg
    have hVB := (below_then HB.out HB2.out).setCell (p := ⟨w.heap.size, 9, none⟩) (Nat.le_refl _) (.slice B m d)
    rw [hV] at YP0 YZ0 hVB
    rw [hV]
    have YP := YP0
    have YZ := YZ0
    have HVS := Lib.hid hVs
    have HVG := Lib.hid hVg
    have HVB := Lib.hid hVB
    clear hV hVs hVg hVB YP0 YZ0
    refine wp_region_noPanic ?_
    refine wp_region_held_drew (S := fun a => VBox a w.heap.size { k with rA := B, rn := m, rc := d } ∧ ∃ j, VBox a (w.heap.size + 1) j) (by kernel_rfl) ?_ (fun hHeld => ?_)
    · exact ⟨YP.out, vm0, YZ.out⟩
    (refine wpAnyH_take (i := 0) (oi := _) (v := ?v0) rfl (by kernel_rfl) (by kernel_rfl) (by kernel_rfl) (fun _ _ _ h => h) (Or.inl ⟨by kernel_rfl, ?y0⟩) (by assumption) ?r0; case y0 => (intro w hSw; (try dsimp only at hSw); go_simp; (try with_reducible rfl))); (try simp only [List.getElem_toArray, List.getElem_cons_succ, List.getElem_cons_zero, Act.put, List.setIfInBounds_toArray, List.set_cons_zero, List.set_cons_succ])
    (refine wpAnyH_take (i := 2) (oi := _) (v := ?v2) rfl (by kernel_rfl) (by kernel_rfl) (by kernel_rfl) (fun _ _ _ h => h) (Or.inl ⟨by kernel_rfl, ?y2⟩) (by assumption) ?r2; case y2 => (intro w hSw; (try dsimp only at hSw); go_simp; (try with_reducible rfl))); (try simp only [List.getElem_toArray, List.getElem_cons_succ, List.getElem_cons_zero, Act.put, List.setIfInBounds_toArray, List.set_cons_zero, List.set_cons_succ])
    refine wpAnyH_ready (rs := [1]) (by kernel_rfl) (by simp) ?_
    refine AllReadyH.cons (o := _) rfl (fun K hK => ?_) AllReadyH.nil
    refine step_vload rfl _ rfl w.heap.size { k with rA := B, rn := m, rc := d } rfl hHeld.1 ?_
    refine hK.out _ _ hHeld (fun hHeld => ?_)
    clear hK K
    try simp only [List.getElem_toArray, List.getElem_cons_succ, List.getElem_cons_zero, Act.put, List.setIfInBounds_toArray, List.set_cons_zero, List.set_cons_succ]
    refine wpAnyH_ready (rs := [3]) (by kernel_rfl) (by simp) ?_
    refine AllReadyH.cons (o := _) rfl (fun K hK => ?_) AllReadyH.nil
    obtain ⟨hb1, j, hb2⟩ := hHeld
    refine step_vstore rfl _ _ rfl (w.heap.size + 1) j { k with rA := B, rn := m, rc := d } rfl rfl hb2 ?_
    have hb3 := vrow hb2 { k with rA := B, rn := m, rc := d }
    refine hK.out _ _ ⟨vrow_far hb1 (by omega) _, _, hb3⟩ (fun hHeld => ?_)
    clear hK K
    try simp only [List.getElem_toArray, List.getElem_cons_succ, List.getElem_cons_zero, Act.put, List.setIfInBounds_toArray, List.set_cons_zero, List.set_cons_succ]
    (refine wpAnyH_take (i := 4) (oi := _) (v := ?v4) rfl (by kernel_rfl) (by kernel_rfl) (by kernel_rfl) (fun _ _ _ h => h) (Or.inl ⟨by kernel_rfl, ?y4⟩) (by assumption) ?r4; case y4 => (intro w hSw; (try dsimp only at hSw); go_simp; (try with_reducible rfl))); (try simp only [List.getElem_toArray, List.getElem_cons_succ, List.getElem_cons_zero, Act.put, List.setIfInBounds_toArray, List.set_cons_zero, List.set_cons_succ])
    refine wpAnyH_done (by kernel_rfl) ?_ _
    refine NoPanic.normal ?_
    go_wp2_with fail
    refine bodyPost_ret (res_tct rfl _ _ _ _ rfl hb3) rfl ⟨B, m, d, rfl, ?_, ?_⟩
    · rw [H2.out]
      have hr2 := HR2.out
      have hf2 := HF.out
      rw [Nat.zero_add] at hr2 hf2
      rw [List.nil_append] at hr2
      refine HR.out.from hr2 hf2 HB.out.size (by have := HVS.out; rw [size_setRow]; exact Nat.le_of_eq this.symm) fun g hg hlt => ?_
      rw [setRow_other _ _ _ _ (by have := HS.out; omega)]
      exact HVG.out g (by have := HS.out; omega)
    · exact below_setRow HVB.out.drew (by omega) _
end Go.Proofs.YtbighilgkmfemaaGreatDoor
