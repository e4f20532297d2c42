/- What a statement is asked of, as it is read: slices of bytes, of patches, memories. -/
import Derived.Test.YtekfemkoiadipaaMemShown
import Derived.ProofKit
import Derived.OpenShut
import Derived.ShutString
import Derived.ChangeOld
import Derived.Below
import Derived.Lib.SmallJoins
import Derived.Deep.Slices
import Derived.Deep.Fields
namespace Go.Proofs.Ytekfemkoiadipaa
open Go.ChangeShapes Go.WideShapes Go.ChangeAt Go.RowKit Go.Joins Go.Deep
set_option linter.unusedVariables false
set_option linter.unusedSimpArgs false

theorem plain_of {w : World} {x : Addr} {v : Value} (h : w.cell? (x.add 0) = some v) : ∃ b off, x = ⟨b, off, none⟩ ∧ b < w.heap.size := by
  obtain ⟨b, off, sp⟩ := x
  have e : (⟨b, off, sp⟩ : Addr).add 0 = ⟨b, off, sp⟩ := by simp [Addr.add]
  rw [e] at h
  have hl : b < w.heap.size := by
    rcases Nat.lt_or_ge b w.heap.size with hl | hl
    · exact hl
    · unfold World.cell? at h
      rw [Array.getElem?_eq_none hl] at h
      simp at h
  cases sp with
  | none => exact ⟨b, off, rfl, hl⟩
  | some s =>
    unfold World.cell? at h
    split at h <;> simp_all

section
variable {H : Type} {enc : TypeId × Value → H} {w : World}

theorem open_byt {fuel : Nat} {v : Value} {x : DataW H × List MemPlace} (h : DataW.trod enc Try.prog w 0 (fun _ => true) true fuel 22 [v] = some x) : ∃ l, Byt w v l := by
  rcases open_ints Try.underlying22 Try.underlying5 (by kernel_rfl) h with ⟨hcs, _⟩ | ⟨a, len, cap, zs, hcs, _, hl, hm, hz, _, hcell, hwz⟩
  · simp at hcs
    subst hcs
    exact ⟨[], byt_nil w⟩
  · simp at hcs hz
    subst hcs
    refine ⟨(zs.take len).map fun z => UInt8.ofNat z.toNat, ?_⟩
    have hlen : ((zs.take len).map fun z => UInt8.ofNat z.toNat).length = len := by simp; omega
    refine ⟨some a, cap, by rw [hlen], by rw [hlen]; exact hl, hm, ?_⟩
    by_cases h0 : len = 0
    · subst h0; exact .inl (by simp [u8s])
    · obtain ⟨b, off, rfl, hb⟩ := plain_of (hcell 0 (by omega))
      refine .inr ⟨b, off, rfl, hb, fun j v hv => ?_⟩
      have hj : j < len := by have := (List.getElem?_eq_some_iff.1 hv).1; rw [u8s_len, hlen] at this; exact this
      have hjz : j < zs.length := by omega
      have hc := hcell j hjz
      rw [add_at] at hc
      rw [hc]
      have hw := hwz zs[j] (List.getElem_mem hjz)
      simp only [Lit.wf, IntKind.min, IntKind.max, IntKind.signed, IntKind.bits, Bool.and_eq_true, decide_eq_true_eq] at hw
      simp at hw
      simp [u8s, hj, hjz] at hv
      rw [← hv]
      simp [List.getD, List.getElem?_eq_getElem hjz]
      omega

set_option maxRecDepth 100000 in
theorem open_patch {fuel : Nat} {cs : List Value} {x : DataW H × List MemPlace} (h : DataW.trod enc Try.prog w 0 (fun _ => true) true fuel 68 cs = some x) : ∃ p v l, cs = [.int .i64 p, v] ∧ Byt w v l := by
  obtain ⟨ys, n, _, _, hlen, hyl, hf⟩ := DataW.trod_struct Try.underlying68 h
  have h2 : cs.length = 2 := hlen.trans (by kernel_rfl)
  have hy2 : ys.length = 2 := hyl
  match cs, h2 with
  | [c0, c1], _ =>
    have f0 : DataW.trod enc Try.prog w 0 (fun _ => true) true n 3 (([c0, c1].drop 0).take (Try.prog.cellsOf 3)) = ys[0]? := hf 0 _ rfl
    have f1 : DataW.trod enc Try.prog w 0 (fun _ => true) true n 22 (([c0, c1].drop 1).take (Try.prog.cellsOf 22)) = ys[1]? := hf 1 _ rfl
    have k0 : Try.prog.cellsOf 3 = 1 := by kernel_rfl
    have k1 : Try.prog.cellsOf 22 = 1 := by kernel_rfl
    rw [k0] at f0
    rw [k1] at f1
    have g0 : ys[0]? = some (ys[0]'(by omega)) := List.getElem?_eq_getElem _
    have g1 : ys[1]? = some (ys[1]'(by omega)) := List.getElem?_eq_getElem _
    rw [g0] at f0
    rw [g1] at f1
    obtain ⟨p, e0, _, _⟩ := DataW.trod_int Try.underlying3 f0
    obtain ⟨l, hl⟩ := open_byt f1
    simp at e0
    subst e0
    exact ⟨p, c1, l, rfl, hl⟩

/-- A list, told element by element. -/
theorem list_of {α : Type} (n : Nat) (R : Nat → α → Prop) (h : ∀ i, i < n → ∃ x, R i x) : ∃ l : List α, l.length = n ∧ ∀ (i : Nat) (x : α), l[i]? = some x → R i x := by
  induction n with
  | zero => exact ⟨[], rfl, fun i x hx => by simp at hx⟩
  | succ n ih =>
    obtain ⟨l, h1, h2⟩ := ih fun i hi => h i (by omega)
    obtain ⟨y, hy⟩ := h n (by omega)
    refine ⟨l ++ [y], by simp [h1], fun i x hx => ?_⟩
    by_cases hi : i < l.length
    · rw [List.getElem?_append_left hi] at hx
      exact h2 i x hx
    · have : i = n := by have := (List.getElem?_eq_some_iff.1 hx).1; simp at this; omega
      subst this
      rw [List.getElem?_append_right (by omega), h1, Nat.sub_self] at hx
      simp at hx
      rw [← hx]
      exact hy

set_option maxRecDepth 100000 in
theorem open_patches {fuel : Nat} {v : Value} {x : DataW H × List MemPlace} (h : DataW.trod enc Try.prog w 0 (fun _ => true) true fuel 23 [v] = some x) : ∃ ps, Pats w v ps := by
  have hC : Try.prog.cellsOf 68 = 2 := by kernel_rfl
  rcases open_slice Try.underlying23 h with ⟨hcs, _⟩ | ⟨a, len, cap, mm, n, D, Pl, hcs, _, hl, hm, hmm, _, hi⟩
  · simp at hcs
    subst hcs
    exact ⟨[], pats_nil w⟩
  · simp at hcs hmm
    subst hcs
    rw [hC] at hi
    obtain ⟨L, hL, hR⟩ := list_of len (fun i (q : Int × Value × List UInt8) => w.cell? (a.add (i * 2)) = some (.int .i64 q.1) ∧ w.cell? (a.add (i * 2 + 1)) = some q.2.1 ∧ Byt w q.2.1 q.2.2) (fun i hilt => by
      obtain ⟨cs', hc, ht⟩ := hi i (by omega)
      obtain ⟨p, v, l, rfl, hb⟩ := open_patch ht
      obtain ⟨_, _, hat⟩ := World.cells?_some hc
      refine ⟨(p, v, l), ?_, ?_, hb⟩
      · have := hat 0 (by omega)
        rw [Go.Deep.add_add] at this
        simpa using this
      · have := hat 1 (by omega)
        rw [Go.Deep.add_add] at this
        simpa using this)
    refine ⟨L.map fun q => (q.1, q.2.2), some a, cap, L.map fun q => (q.1, q.2.1), by simp [hL], by simp [hL]; exact hl, hm, ?_, by simp, ?_⟩
    · by_cases h0 : len = 0
      · subst h0
        have : L = [] := List.eq_nil_of_length_eq_zero hL
        subst this
        exact .inl rfl
      · have hL0 : L[0]? = some (L[0]'(by omega)) := List.getElem?_eq_getElem _
        obtain ⟨b, off, rfl, hb⟩ := plain_of (hR 0 _ hL0).1
        refine .inr ⟨b, off, rfl, hb, fun j v hv => ?_⟩
        have hj : j < 2 * len := by have := (List.getElem?_eq_some_iff.1 hv).1; rw [pc_len] at this; simp [hL] at this; exact this
        have hk : j / 2 < L.length := by omega
        have hLk : L[j / 2]? = some L[j / 2] := List.getElem?_eq_getElem hk
        obtain ⟨r1, r2, _⟩ := hR (j / 2) _ hLk
        rw [add_at] at r1 r2
        have hq : (L.map fun q => (q.1, q.2.1))[j / 2]? = some (L[j / 2].1, L[j / 2].2.1) := by rw [List.getElem?_map, hLk]; rfl
        obtain ⟨t1, t2⟩ := pc_at _ _ _ hq
        by_cases he : j % 2 = 0
        · have ej : 2 * (j / 2) = j := by omega
          rw [ej, hv] at t1
          injection t1 with t1
          rw [t1, show off + j = off + j / 2 * 2 by omega]
          exact r1
        · have ej : 2 * (j / 2) + 1 = j := by omega
          rw [ej, hv] at t2
          injection t2 with t2
          rw [t2, show off + j = off + (j / 2 * 2 + 1) by omega]
          exact r2
    · intro i q p hq hp
      rw [List.getElem?_map] at hq hp
      cases hLi : L[i]? with
      | none => rw [hLi] at hq; simp at hq
      | some z =>
        rw [hLi] at hq hp
        simp at hq hp
        subst hq hp
        exact ⟨rfl, (hR i z hLi).2.2⟩

set_option maxRecDepth 100000 in
theorem open_mem {fuel : Nat} {cs : List Value} {x : DataW H × List MemPlace} (h : DataW.trod enc Try.prog w 0 (fun _ => true) true fuel 25 cs = some x) : ∃ A L c P K d m, cs = [.slice A L c, .slice P K d] ∧ IsMem w (.agg #[.slice A L c, .slice P K d]) m := by
  obtain ⟨ys, n, _, _, hlen, hyl, hf⟩ := DataW.trod_struct Try.underlying25 h
  have h2 : cs.length = 2 := hlen.trans (by kernel_rfl)
  have hy2 : ys.length = 2 := hyl
  match cs, h2 with
  | [c0, c1], _ =>
    have f0 : DataW.trod enc Try.prog w 0 (fun _ => true) true n 22 (([c0, c1].drop 0).take (Try.prog.cellsOf 22)) = ys[0]? := hf 0 _ rfl
    have f1 : DataW.trod enc Try.prog w 0 (fun _ => true) true n 23 (([c0, c1].drop 1).take (Try.prog.cellsOf 23)) = ys[1]? := hf 1 _ rfl
    have k0 : Try.prog.cellsOf 22 = 1 := by kernel_rfl
    have k1 : Try.prog.cellsOf 23 = 1 := by kernel_rfl
    rw [k0] at f0
    rw [k1] at f1
    have g0 : ys[0]? = some (ys[0]'(by omega)) := List.getElem?_eq_getElem _
    have g1 : ys[1]? = some (ys[1]'(by omega)) := List.getElem?_eq_getElem _
    rw [g0] at f0
    rw [g1] at f1
    obtain ⟨l, hl⟩ := open_byt f0
    obtain ⟨ps, hp⟩ := open_patches f1
    have hm : IsMem w (.agg #[c0, c1]) (l, ps) := mem_mk hl hp
    obtain ⟨A, L, c, P, K, d, rfl, rfl⟩ := hm.slices
    exact ⟨A, L, c, P, K, d, (l, ps), rfl, hm⟩
end
end Go.Proofs.Ytekfemkoiadipaa
