/- What the laws of this stage lean on, part 2: MemOpen, BytApp, RevLay, BytRev, WalksA, Shelf, MathA, DivA, DivB, WalksC, NumCodeE, MathC, RefA, RefB, RefC, WalksD, RefD, MemIn, PicBase, PicRefA. -/
import Derived.Test.YtphbeghflbkpgaaSetA
import Derived.ProofKit
import Derived.OpenShut
import Derived.ShutString
import Derived.ChangeOld
import Derived.Below
import Derived.Lib.SmallJoins
import Derived.Deep.Slices
import Derived.Deep.Fields
import Derived.Shelf.SlicesE.Reverse
import Derived.Test.YtphbeghflbkpgaaProg
import Derived.Test.YtphbeghflbkpgaaRows
import Derived.WalkKit
import Derived.WalkSpells
import Derived.WalkLawsBesides
import Derived.Deep.QuietTactic
import Derived.BigQuiet
import Derived.Lib.Hide
import Derived.Shelf.Small.Bits
import Derived.Shelf.Strconv.Itoa0
import Derived.Shelf.Bits.Mul64
import Derived.Shelf.Spec.BitsCarry
import Derived.Lib.BitFns
import Derived.Laws.RangeAny
import Derived.Lib.OthersKept
import Derived.Lib.Mul64

/- What a statement is asked of, as it is read: slices of bytes, of patches, memories. -/
namespace Go.Proofs.Ytphbeghflbkpgaa
open Go.ChangeShapes Go.WideShapes Go.ChangeAt Go.RowKit Go.Joins Go.Deep
set_option linter.unusedVariables false
set_option linter.unusedSimpArgs false

theorem plain_of {w : World} {x : Addr} {v : Value} (h : w.cell? (x.add 0) = some v) : ∃ b off, x = ⟨b, off, none⟩ ∧ b < w.heap.size := by
  obtain ⟨b, off, sp⟩ := x
  have e : (⟨b, off, sp⟩ : Addr).add 0 = ⟨b, off, sp⟩ := by simp [Addr.add]
  rw [e] at h
  have hl : b < w.heap.size := by
    rcases Nat.lt_or_ge b w.heap.size with hl | hl
    · exact hl
    · unfold World.cell? at h
      rw [Array.getElem?_eq_none hl] at h
      simp at h
  cases sp with
  | none => exact ⟨b, off, rfl, hl⟩
  | some s =>
    unfold World.cell? at h
    split at h <;> simp_all

section
variable {H : Type} {enc : TypeId × Value → H} {w : World}

theorem open_byt {fuel : Nat} {v : Value} {x : DataW H × List MemPlace} (h : DataW.trod enc Try.prog w 0 (fun _ => true) true fuel 22 [v] = some x) : ∃ l, Byt w v l := by
  rcases open_ints Try.underlying22 Try.underlying5 (by kernel_rfl) h with ⟨hcs, _⟩ | ⟨a, len, cap, zs, hcs, _, hl, hm, hz, _, hcell, hwz⟩
  · simp at hcs
    subst hcs
    exact ⟨[], byt_nil w⟩
  · simp at hcs hz
    subst hcs
    refine ⟨(zs.take len).map fun z => UInt8.ofNat z.toNat, ?_⟩
    have hlen : ((zs.take len).map fun z => UInt8.ofNat z.toNat).length = len := by simp; omega
    refine ⟨some a, cap, by rw [hlen], by rw [hlen]; exact hl, hm, ?_⟩
    by_cases h0 : len = 0
    · subst h0; exact .inl (by simp [u8s])
    · obtain ⟨b, off, rfl, hb⟩ := plain_of (hcell 0 (by omega))
      refine .inr ⟨b, off, rfl, hb, fun j v hv => ?_⟩
      have hj : j < len := by have := (List.getElem?_eq_some_iff.1 hv).1; rw [u8s_len, hlen] at this; exact this
      have hjz : j < zs.length := by omega
      have hc := hcell j hjz
      rw [add_at] at hc
      rw [hc]
      have hw := hwz zs[j] (List.getElem_mem hjz)
      simp only [Lit.wf, IntKind.min, IntKind.max, IntKind.signed, IntKind.bits, Bool.and_eq_true, decide_eq_true_eq] at hw
      simp at hw
      simp [u8s, hj, hjz] at hv
      rw [← hv]
      simp [List.getD, List.getElem?_eq_getElem hjz]
      omega

end
end Go.Proofs.Ytphbeghflbkpgaa

/- append of bytes to a row that the call made, in a list of operations and in a region that draws its order. -/
namespace Go.Proofs.Ytphbeghflbkpgaa
open Go.RowKit
set_option linter.unusedVariables false
set_option linter.unusedSimpArgs false

/-- A value that owns a row of bytes. -/
abbrev BOwns (w : World) (base : Nat) (v : Value) (n : Nat) (l : List UInt8) : Prop := w.ownsRow base 5 1 v n (u8s l)
theorem BOwns.byt {w : World} {base n : Nat} {v : Value} {l : List UInt8} (h : BOwns w base v n l) : Byt w v l := own_byt h
theorem BOwns.len {w : World} {base n : Nat} {v : Value} {l : List UInt8} (h : BOwns w base v n l) : l.length = n := by
  have hl := h.1
  rw [u8s_len, Nat.mul_one] at hl
  exact hl
theorem BOwns.alloc {w : World} {base n : Nat} {v : Value} {l : List UInt8} (h : BOwns w base v n l) (o : Obj) : BOwns (w.alloc o) base v n l := World.ownsRow.alloc h o
theorem bowns_none (w : World) (base : Nat) : BOwns w base (.slice none 0 0) 0 [] := ⟨rfl, .inl ⟨rfl, rfl⟩⟩

/-- append of a row of bytes to one that the call owns. -/
theorem run_bapp {w : World} (ty : TypeId) {base n : Nat} {v : Value} {xs : List UInt8} (hown : BOwns w base v n xs) {A : Option Addr} {m c : Nat} {ys : List UInt8} (hr : Byt w (.slice A m c) ys) (h63 : n + m ≤ 1000000) (hbase : base ≤ w.heap.size) :
    ∃ v' w', (Builtin.append_ #[22, 22] ty #[v, .slice A m c]).run Try.prog w = .ok v' w' ∧ BOwns w' base v' (n + m) (xs ++ ys) ∧ w.grownBy w' v.ownBlock := by
  obtain ⟨i0, hi, hz0, hz1, hz2⟩ := info_parts info_u8
  have h1 := hr.len
  have h4 := hr.lies
  cases A with
  | some ad =>
    have hsrc : ∀ j u, (u8s ys)[j]? = some u → w.cell? (ad.add j) = some u := by
      intro j u hu
      rcases h4 with h4 | ⟨g, o, e, _, hc⟩
      · rw [h4] at hu; simp at hu
      · injection e with e
        rw [e, add_at]
        exact hc j u hu
    obtain ⟨v', w', ha, hb, hc, _⟩ := run_append_own (P := Try.prog) w base 22 ty 5 i0 (.int .u8 0) 1 1 Try.underlying22 hi hz0 hz1 hz2 rfl (by decide) v n (u8s xs) hown ad m c (u8s ys) (by rw [u8s_len, h1, Nat.mul_one]) hsrc (u8s_one ys) (by unfold maxLen; omega) (by omega) hbase
    exact ⟨v', w', ha, by have e := u8s_app xs ys; unfold BOwns; rw [e]; exact hb, hc⟩
  | none =>
    have hnil : ys = [] := by
      rcases h4 with h | ⟨_, _, h, _⟩
      · have := congrArg List.length h
        rw [u8s_len] at this
        exact List.eq_nil_of_length_eq_zero this
      · cases h
    subst hnil
    have hm : m = 0 := by rw [← h1]; rfl
    subst hm
    refine ⟨v, w, ?_, by simpa using hown, World.grownBy.refl w _⟩
    rcases hown.2 with ⟨rfl, rfl⟩ | ⟨g, cap, cur, rfl, _, _, hnc, _⟩
    · simp [Builtin.append_, run_underlying Try.underlying22, sizeOf, typeInfo, hi, Builtin.lenOf, Builtin.firstCells]
    · simp [Builtin.append_, run_underlying Try.underlying22, sizeOf, typeInfo, hi, Builtin.lenOf, Builtin.firstCells, hnc, storeCells]
theorem bapp_below {w0 w w' : World} {base n : Nat} {v : Value} {xs : List UInt8} (hown : BOwns w base v n xs) (hb : Below w0.heap.size w0 w) (hg : w.grownBy w' v.ownBlock) (hB : w0.heap.size ≤ base) : Below w0.heap.size w0 w' :=
  hb.grown hg hb.size (fun k hk => Nat.le_trans hB (own_from hown k hk))

theorem wp_bapp {o : Oper} {a : Act} {K : Act → World → Prop} {Q : Exit → Act → World → Prop} {w : World} (s x : Operand)
    (ho : o.op = .call { callee := .builtin .append, args := #[s, x], argTypes := #[22, 22] })
    (base : Nat) (v : Value) (n : Nat) (xs : List UInt8) (hs : a.eval s = v) (hown : BOwns w base v n xs)
    (A : Option Addr) (m c : Nat) (ys : List UInt8) (hx : a.eval x = .slice A m c) (hr : Byt w (.slice A m c) ys) (h63 : n + m ≤ 1000000) (hbase : base ≤ w.heap.size)
    (w0 : World) (hb : Below w0.heap.size w0 w) (hB : w0.heap.size ≤ base)
    (h : ∀ v' w', BOwns w' base v' (n + m) (xs ++ ys) → Below w0.heap.size w0 w' → w.grownBy w' v.ownBlock → K (a.put o.dst v') w') : o.wp Try.prog a w K Q := by
  obtain ⟨v', w', hr, h2, h3⟩ := run_bapp o.type hown hr h63 hbase
  unfold Oper.wp execOp
  simp only [ho, resolve, invoke, builtin, Sem.run_bind, Sem.run_pure, Result.andThen_ok, List.map_toArray, List.map_cons, List.map_nil, hs, hx, hr]
  exact h v' w' h2 (bapp_below hown hb h3 hB) h3
theorem wpList_bapp {ops : Array Oper} {rest : List Oper} {o : Oper} {a : Act} {Q : Exit → Act → World → Prop} {w : World} (hgd : o.guard = none) (s x : Operand)
    (ho : o.op = .call { callee := .builtin .append, args := #[s, x], argTypes := #[22, 22] })
    (base : Nat) (v : Value) (n : Nat) (xs : List UInt8) (hs : a.eval s = v) (hown : BOwns w base v n xs)
    (A : Option Addr) (m c : Nat) (ys : List UInt8) (hx : a.eval x = .slice A m c) (hr : Byt w (.slice A m c) ys) (h63 : n + m ≤ 1000000) (hbase : base ≤ w.heap.size)
    (w0 : World) (hb : Below w0.heap.size w0 w) (hB : w0.heap.size ≤ base)
    (h : ∀ v' w', BOwns w' base v' (n + m) (xs ++ ys) → Below w0.heap.size w0 w' → w.grownBy w' v.ownBlock → wpList Try.prog ops Q rest (a.put o.dst v') w') : wpList Try.prog ops Q (o :: rest) a w :=
  wpList_plain hgd fun _ hK => wp_bapp s x ho base v n xs hs hown A m c ys hx hr h63 hbase w0 hb hB fun v' w' h2 h3 h4 => hK _ _ (h v' w' h2 h3 h4)
theorem step_bapp {ops : Array Oper} {o : Oper} {a : Act} {K : Act → World → Prop} {Q : Exit → Act → World → Prop} {E : Prop} {w : World} (hgd : o.guard = none) (s x : Operand)
    (ho : o.op = .call { callee := .builtin .append, args := #[s, x], argTypes := #[22, 22] })
    (base : Nat) (v : Value) (n : Nat) (xs : List UInt8) (hs : a.eval s = v) (hown : BOwns w base v n xs)
    (A : Option Addr) (m c : Nat) (ys : List UInt8) (hx : a.eval x = .slice A m c) (hr : Byt w (.slice A m c) ys) (h63 : n + m ≤ 1000000) (hbase : base ≤ w.heap.size)
    (w0 : World) (hb : Below w0.heap.size w0 w) (hB : w0.heap.size ≤ base)
    (h : ∀ v' w', BOwns w' base v' (n + m) (xs ++ ys) → Below w0.heap.size w0 w' → w.grownBy w' v.ownBlock → K (a.put o.dst v') w') :
    if Region.wanted o (yielded ops a.tmps) = true then Oper.wp Try.prog o a w K Q else E := by
  have hw : Region.wanted o (yielded ops a.tmps) = true := by simp [Region.wanted, hgd]
  rw [if_pos hw]
  exact wp_bapp s x ho base v n xs hs hown A m c ys hx hr h63 hbase w0 hb hB h

theorem none_bowns (w : World) : BOwns (w.alloc (.cells #[] 5)) w.heap.size (.slice (some ⟨w.heap.size, 0, none⟩) 0 0) 0 [] := World.ownsRow_lit w #[] 0 (Nat.le_refl _) (by unfold maxLen; omega) rfl
theorem none_bowns2 (w : World) (o : Obj) : BOwns ((w.alloc o).alloc (.cells #[] 5)) w.heap.size (.slice (some ⟨w.heap.size + 1, 0, none⟩) 0 0) 0 [] := by
  have := World.ownsRow_lit (base := w.heap.size) (e := 5) (size := 1) (w.alloc o) #[] 0 (by simp) (by unfold maxLen; omega) rfl
  rwa [World.size_alloc] at this
theorem Box.grown {w w' : World} {b : Nat} {x y : Value} {t : TypeId} {row : Option Nat} (h : Box w b x y t) (hg : w.grownBy w' row) (hne : some b ≠ row) : Box w' b x y t := (hg.block b h.lt hne).trans h
theorem Box.grown_h {w0 w w' : World} {b : Nat} {x y : Value} {t : TypeId} {row : Option Nat} (h : Box w0 b x y t) (hg : w.grownBy w' row) (hne : some b ≠ row) (hh : w0.heap = w.heap) : Box w' b x y t := by
  have h' : Box w b x y t := by unfold Box at h ⊢; rw [← hh]; exact h
  exact h'.grown hg hne
theorem Box.keep_h {w0 w w' : World} {b : Nat} {x y : Value} {t : TypeId} (h : Box w0 b x y t) (hg : Below w.heap.size w w') (hh : w0.heap = w.heap) : Box w' b x y t := by
  have h' : Box w b x y t := by unfold Box at h ⊢; rw [← hh]; exact h
  exact h'.keep hg
theorem since_d (w : World) : Below w.heap.size w w.drew := ⟨rfl, rfl, rfl, Nat.le_refl _, fun _ _ => rfl⟩
theorem since_ad (w : World) (o : Obj) : Below w.heap.size w (w.alloc o).drew := (al_one w o).trans ⟨rfl, rfl, rfl, Nat.le_refl _, fun _ _ => rfl⟩
theorem since_add (w : World) (o o2 : Obj) : Below w.heap.size w ((w.alloc o).alloc o2).drew := ((al_one w o).alloc (by simp) o2).trans ⟨rfl, rfl, rfl, Nat.le_refl _, fun _ _ => rfl⟩
theorem since_aa {w w1 : World} (b : Below w.heap.size w w1) (o : Obj) : Below w.heap.size w (w1.alloc o) := b.alloc b.size o
end Go.Proofs.Ytphbeghflbkpgaa

/- The library's contract of slices.Reverse, laid at this program's own numbers, at bytes. -/
namespace Go.Proofs
open Go.Shelf
def Try.rev_ren : Go.Shelf.Ren := ⟨fun | 35 => 32 | n => n, fun | 0 => 0 | 3 => 3 | 4 => 4 | 22 => 22 | 23 => 5 | n => n, fun | n => n⟩
theorem Try.rev_lays : Go.Proofs.SlLaysE.n35 Try.prog Try.rev_ren := {
  mixed := by kernel_rfl
  f35 := ⟨"slices.Reverse[[]byte,byte]", by decide, Try.func32.trans (congrArg some (by kernel_rfl))⟩
  t0 := Try.underlying0
  a0 := Try.isAgg0
  z0 := Try.sizeOf0
  v0 := Try.zeroValue0
  t3 := Try.underlying3
  a3 := Try.isAgg3
  z3 := Try.sizeOf3
  v3 := Try.zeroValue3
  t4 := Try.underlying4
  a4 := Try.isAgg4
  z4 := Try.sizeOf4
  v4 := Try.zeroValue4
  t22 := Try.underlying22
  a22 := Try.isAgg22
  z22 := Try.sizeOf22
  v22 := Try.zeroValue22
  a23 := Try.isAgg5
  z23 := Try.sizeOf5 }
theorem Try.slices_Reverse (blk off cap : Nat) (zs : List UInt8) (w : World) (hH : Go.Sort.Holds (fun b : UInt8 => Value.int .u8 (b.toNat : Int)) w blk off zs.toArray) (hsz : zs.length ≤ 9223372036854775807) :
    Calls Try.prog 32 #[.slice (some ⟨blk, off, none⟩) zs.length cap] w fun e w' => e = .returned (.tuple #[]) ∧ ∃ n, w' = Go.Sort.putRow (fun b : UInt8 => Value.int .u8 (b.toNat : Int)) (Go.Sort.ahead w n) blk off zs.reverse.toArray :=
  AnyE.slices_Reverse Try.rev_lays (fun b : UInt8 => Value.int .u8 (b.toNat : Int)) (fun _ => rfl) blk off cap zs w hH hsz
end Go.Proofs

/- slices.Reverse of a row of bytes that the call owns. -/
namespace Go.Proofs.Ytphbeghflbkpgaa
open Go.RowKit
set_option linter.unusedVariables false
set_option linter.unusedSimpArgs false

abbrev encB (b : UInt8) : Value := .int .u8 (b.toNat : Int)
theorem putRow_below {w0 w : World} {g off : Nat} {d : Array UInt8} (n : Nat) (hb : Below w0.heap.size w0 w) (hg : w0.heap.size ≤ g) : Below w0.heap.size w0 (Go.Sort.putRow encB (Go.Sort.ahead w n) g off d) := by
  refine hb.trans ⟨rfl, rfl, rfl, ?_, fun k hk => ?_⟩
  · rw [Go.Sort.size_putRow]; exact Nat.le_refl _
  · show (w.heap.modify g _)[k]? = w.heap[k]?
    rw [Array.getElem?_modify, if_neg (by omega)]
theorem rev_own (w : World) (base n : Nat) (v : Value) (l : List UInt8) (h : BOwns w base v n l) (hne : l ≠ []) (hl : l.length ≤ 1000000) :
    Calls Try.prog 32 #[v] w fun e w' => e = .returned (.tuple #[]) ∧ Byt w' v l.reverse ∧ ∀ w0 : World, Below w0.heap.size w0 w → w0.heap.size ≤ base → Below w0.heap.size w0 w' := by
  have hn := h.len
  have hby := h.byt
  rcases h.2 with ⟨_, h0⟩ | ⟨g, cap, cur, rfl, hbg, hg, hnc, hcm, hcs, ht⟩
  · exact absurd (List.eq_nil_of_length_eq_zero (hn.trans h0)) hne
  · subst hn
    have hH : Go.Sort.Holds encB w g 0 l.toArray := by
      intro j hj
      have hj' : j < l.length := by simpa using hj
      constructor
      · obtain ⟨A, c, e, _, _, hli⟩ := hby
        injection e with e1 e2 e3
        subst e1
        rcases hli with h | ⟨g2, o2, e4, _, hc⟩
        · have := congrArg List.length h
          rw [u8s_len] at this
          have h0 : l.length = 0 := this
          omega
        · injection e4 with e4
          have := hc j (encB l[j]) (by unfold u8s; rw [List.getElem?_map, List.getElem?_eq_getElem hj']; rfl)
          injection e4 with e5 e6
          rw [← e5, ← e6] at this
          rw [this]
          congr 2
          simp [hj']
      · simp [World.frozen?, hg]
    refine (Try.slices_Reverse g 0 cap l w hH (by omega)).mono ?_
    rintro e w' ⟨rfl, m, rfl⟩
    refine ⟨rfl, ⟨some ⟨g, 0, none⟩, cap, by rw [List.length_reverse], by rw [List.length_reverse]; exact hnc, hcm, .inr ⟨g, 0, rfl, ?_, fun j x hx => ?_⟩⟩, fun w0 hb0 hs => putRow_below m hb0 (by omega)⟩
    · rw [Go.Sort.size_putRow]
      exact (Array.getElem?_eq_some_iff.1 hg).1
    · have hj : j < l.reverse.length := by
        have := (List.getElem?_eq_some_iff.1 hx).1
        rw [u8s_len] at this
        exact this
      have hx2 : x = encB l.reverse[j] := by
        unfold u8s at hx
        rw [List.getElem?_map, List.getElem?_eq_getElem hj] at hx
        injection hx with hx
        exact hx.symm
      have hH2 : Go.Sort.Holds encB (Go.Sort.ahead w m) g 0 l.toArray := hH
      have := Go.Sort.cell?_putRow encB (Go.Sort.ahead w m) g 0 l.toArray l.reverse.toArray hH2 (by simp) j (by simpa using hj)
      rw [this, hx2]
      congr 2
      have hj2 : j < l.reverse.toArray.size := by simpa using hj
      rw [getElem!_pos l.reverse.toArray j hj2]
      simp
end Go.Proofs.Ytphbeghflbkpgaa

/- Contracts of the small functions of package cell that only compute: ULess, leansUp, size, Div. -/
namespace Go.Proofs.Ytphbeghflbkpgaa
open Go.RowKit

end Go.Proofs.Ytphbeghflbkpgaa

/- The library's contracts of math/bits.LeadingZeros64, Len64 and Mul64, laid at this program's own numbers. -/
namespace Go.Proofs
open Go.Shelf
def Try.lays134_ren : Go.Shelf.Ren := ⟨fun | 134 => 47 | 129 => 48 | n => n, fun | 53 => 49 | 3 => 3 | 4 => 4 | 46 => 76 | 5 => 5 | 9 => 9 | n => n, fun | n => n⟩
theorem Try.lays134 : Go.Proofs.Lays.n134 Try.prog Try.lays134_ren := {
  mixed := by kernel_rfl
  f129 := Try.func48.trans (congrArg some (by kernel_rfl))
  f134 := Try.func47.trans (congrArg some (by kernel_rfl))
  t3 := Try.underlying3
  a3 := Try.isAgg3
  z3 := Try.sizeOf3
  v3 := Try.zeroValue3
  t4 := Try.underlying4
  a4 := Try.isAgg4
  z4 := Try.sizeOf4
  v4 := Try.zeroValue4
  t5 := Try.underlying5
  a5 := Try.isAgg5
  z5 := Try.sizeOf5
  v5 := Try.zeroValue5
  t9 := Try.underlying9
  a9 := Try.isAgg9
  z9 := Try.sizeOf9
  v9 := Try.zeroValue9
  t46 := Try.underlying76
  a46 := Try.isAgg76
  z46 := Try.sizeOf76
  v46 := Try.zeroValue76
  t53 := Try.underlying49
  a53 := Try.isAgg49
  z53 := Try.sizeOf49
  v53 := Try.zeroValue49 }
theorem Try.bits_LeadingZeros64 (x : Int) (w : World) (h0 : 0 ≤ x) (h1 : x ≤ 18446744073709551615) :
    Calls Try.prog 47 #[.int .u64 x] w fun e w' => e = .returned (.int .i64 (64 - (Lib.bitLen x.toNat : Int))) ∧ w' = w := Any.bits_LeadingZeros64 Try.lays134 x w h0 h1
end Go.Proofs

/- Plain arithmetic of natural numbers under a quotient of two digits by two (Knuth's way): no model's run is named here. -/
namespace Go.Proofs.Ytphbeghflbkpgaa.Plain

/-- The loop's test is that the guess is too great. -/
theorem digit_test (B v1 v0 u n q r : Nat) (h : q * v1 + r = u) : B * r + n < q * v0 ↔ u * B + n < q * (v1 * B + v0) := by
  subst h
  have e1 : q * (v1 * B + v0) = q * v1 * B + q * v0 := by rw [Nat.mul_add, Nat.mul_assoc]
  have e2 : (q * v1 + r) * B = q * v1 * B + r * B := Nat.add_mul _ _ _
  have e3 : B * r = r * B := Nat.mul_comm _ _
  rw [e1, e2, e3]
  omega

theorem digit_lt (B v u n : Nat) (hu : u < v) (hn : n < B) : (u * B + n) / v < B := by
  refine Nat.div_lt_of_lt_mul ?_
  have : (u + 1) * B ≤ v * B := Nat.mul_le_mul_right _ hu
  rw [Nat.add_mul] at this
  omega

theorem guess_ge (B v1 v0 u n : Nat) (h1 : 0 < v1) (hn : n < B) : (u * B + n) / (v1 * B + v0) ≤ u / v1 := by
  rw [Nat.le_div_iff_mul_le h1]
  have hB : 0 < B := by omega
  have h : (u * B + n) / (v1 * B + v0) * (v1 * B + v0) ≤ u * B + n := Nat.div_mul_le_self _ _
  generalize (u * B + n) / (v1 * B + v0) = q at h ⊢
  rw [Nat.mul_add, ← Nat.mul_assoc] at h
  have h2 : q * v1 * B < (u + 1) * B := by rw [Nat.add_mul]; omega
  have := Nat.lt_of_mul_lt_mul_right h2
  omega

theorem guess_le (B v1 v0 u : Nat) (h1 : B ≤ 2 * v1) (h0 : v0 < B) (hu : u < v1 * B + v0) (_hv : 0 < v1) : u / v1 ≤ B + 1 := by
  have : u / v1 < B + 2 := by
    refine Nat.div_lt_of_lt_mul ?_
    rw [Nat.mul_add]
    omega
  omega

/-- Once the rest has grown to a digit and more, the guess is right. -/
theorem digit_break (B v1 v0 u n q r : Nat) (hq : q ≤ B) (h0 : v0 < B) (hr : B ≤ r) (h : q * v1 + r = u) : q * (v1 * B + v0) ≤ u * B + n := by
  have t := digit_test B v1 v0 u n q r h
  have a : q * v0 ≤ B * v0 := Nat.mul_le_mul_right _ hq
  have b : B * v0 ≤ B * r := Nat.mul_le_mul_left _ (by omega)
  have : ¬ (B * r + n < q * v0) := by omega
  have := mt t.2 this
  omega

/-- Two digits are one quotient. -/
theorem two_digits (B v u n1 n0 : Nat) (hv : 0 < v) (_hB : 0 < B) :
    (u * B + n1) / v * B + ((u * B + n1) % v * B + n0) / v = ((u * B + n1) * B + n0) / v ∧
    ((u * B + n1) % v * B + n0) % v = ((u * B + n1) * B + n0) % v := by
  have e := Nat.div_add_mod (u * B + n1) v
  generalize (u * B + n1) / v = q at *
  generalize (u * B + n1) % v = r at *
  have e2 : (u * B + n1) * B + n0 = v * (q * B) + (r * B + n0) := by
    rw [← e, Nat.add_mul, Nat.mul_assoc]; omega
  rw [e2]
  constructor
  · rw [Nat.mul_add_div hv]
  · rw [Nat.mul_add_mod]

/-- Dividend and divisor times a power: the quotient stays, the rest is times it. -/
theorem scaled (N y p : Nat) (hp : 0 < p) : (N * p) / (y * p) = N / y ∧ (N * p) % (y * p) / p = N % y := by
  constructor
  · exact Nat.mul_div_mul_right _ _ hp
  · rw [Nat.mul_mod_mul_right, Nat.mul_div_cancel _ hp]

end Go.Proofs.Ytphbeghflbkpgaa.Plain

/- The contract of math/bits.Div64: a quotient of two digits by one, and the rest. -/
namespace Go.Proofs.Ytphbeghflbkpgaa
open Go.RowKit

theorem lz64_any (x : Nat) (w : World) (h1 : x ≤ 18446744073709551615) :
    Calls Try.prog 47 #[.int .u64 (x : Int)] w fun e w' => e = .returned (.int .i64 ((64 - Lib.bitLen x : Nat) : Int)) ∧ w = w' :=
  (Try.bits_LeadingZeros64 x w (by omega) (by omega)).mono fun e w' ⟨a, b⟩ => ⟨by
    have h2 : Lib.bitLen x ≤ 64 := Lib.bitLen_le x 64 (by omega) (by omega)
    rw [a]; exact ret_int (by simp only [Int.toNat_natCast]; omega), b.symm⟩

theorem low_quo (lo y : Nat) (h : lo ≤ 18446744073709551615) : IntKind.u64.wrap ((lo : Int) / (y : Int)) = ((lo / y : Nat) : Int) := by
  rw [← Int.natCast_ediv, un_nat _ (by have := Nat.div_le_self lo y; omega)]

set_option maxHeartbeats 400000 in
theorem div64_low (lo y : Nat) (w : World) (hy : 0 < y) (hl : lo ≤ 18446744073709551615) :
    Calls Try.prog 46 #[.int .u64 0, .int .u64 (lo : Int), .int .u64 (y : Int)] w fun e w' => e = .returned (.tuple #[.int .u64 ((lo / y : Nat) : Int), .int .u64 ((lo % y : Nat) : Int)]) ∧ Below w.heap.size w w' := by
  have h0 : ((y : Int) == 0) = false := by simp; omega
  have h1 : ¬ (y : Int) = 0 := by omega
  have H := Lib.hid (low_quo lo y hl)
  go_enter Try.func46, Try.ntmps46
  go_wp2
  go_quiet (fail)
  go_wp2
  go_ret2
  exact ⟨ret_two H.out (Int.natCast_emod _ _).symm, drew_below _ _⟩

/-- d is the digit by which v goes into u and one digit more, n. -/
structure DigitOf (u v v1 v0 n d : Nat) : Prop where
  parts : v1 * 4294967296 + v0 = v
  lt : u < v
  n_lt : n < 4294967296
  v0_lt : v0 < 4294967296
  v1_ge : 2147483648 ≤ v1
  v1_lt : v1 < 4294967296
  digit : (u * 4294967296 + n) / v = d

theorem DigitOf.over {u v v1 v0 n d : Nat} (D : DigitOf u v v1 v0 n d) (k j : Nat) (h : k * v1 + j = u) (hd : d < k) :
    (k < 4294967296 → 4294967296 * (j : Int) + (n : Int) < (k : Int) * (v0 : Int)) ∧ (k < 4294967296 → (k : Int) * (v0 : Int) ≤ 18446744073709551615) := by
  have hv := D.parts
  have h1 := D.v1_ge
  have h0 := D.v0_lt
  have ht := Plain.digit_test 4294967296 v1 v0 u n k j h
  refine ⟨fun _ => ?_, fun hk => ?_⟩
  · have : u * 4294967296 + n < k * v := by
      rw [← Nat.div_lt_iff_lt_mul (by omega), D.digit]; exact hd
    rw [hv] at ht
    have := ht.2 this
    rw [← Int.natCast_mul]
    omega
  · have : k * v0 ≤ 4294967295 * 4294967295 := Nat.mul_le_mul (by omega) (by omega)
    rw [← Int.natCast_mul]
    omega

theorem DigitOf.brk {u v v1 v0 n d : Nat} (D : DigitOf u v v1 v0 n d) (k j : Nat) (h : k * v1 + j = u) (hd : d < k) (hk : k ≤ 4294967297) (hj : 4294967296 ≤ j + v1) : k = d + 1 := by
  have hv := D.parts
  have h1 := D.v1_ge
  have hb := Plain.digit_break 4294967296 v1 v0 u n (k - 1) (j + v1) (by omega) D.v0_lt hj (by rw [Nat.sub_mul]; have : v1 ≤ k * v1 := Nat.le_mul_of_pos_left _ (by omega); omega)
  rw [hv] at hb
  have := (Nat.le_div_iff_mul_le (by omega)).2 hb
  rw [D.digit] at this
  omega

theorem DigitOf.lt_base {u v v1 v0 n d : Nat} (D : DigitOf u v v1 v0 n d) : d < 4294967296 := by
  have := Plain.digit_lt 4294967296 v u n D.lt D.n_lt
  rw [D.digit] at this
  exact this

theorem DigitOf.under {u v v1 v0 n d : Nat} (D : DigitOf u v v1 v0 n d) (j : Nat) (h : d * v1 + j = u) :
    (d : Int) * (v0 : Int) ≤ 4294967296 * (j : Int) + (n : Int) ∧ (d : Int) * (v0 : Int) ≤ 18446744073709551615 := by
  have hv := D.parts
  have h0 := D.v0_lt
  have h1 := D.v1_ge
  have hb := D.lt_base
  have ht := Plain.digit_test 4294967296 v1 v0 u n d j h
  rw [hv] at ht
  have : d * v ≤ u * 4294967296 + n := (Nat.le_div_iff_mul_le (by omega)).1 (by rw [D.digit]; omega)
  have h2 : d * v0 ≤ 4294967295 * 4294967295 := Nat.mul_le_mul (by omega) (by omega)
  rw [← Int.natCast_mul]
  omega

/-- The first guess of a digit, and what it leaves. -/
structure GuessOf (u v1 d q r : Nat) : Prop where
  quo : (u : Int) / (v1 : Int) = (q : Int)
  le : (q : Int) * (v1 : Int) ≤ (u : Int)
  rest : (u : Int) - (q : Int) * (v1 : Int) = (r : Int)
  u_le : (u : Int) ≤ 18446744073709551615
  q_le : q ≤ 4294967297
  r_lt : r < v1
  d_le : d ≤ q

theorem GuessOf.parts {u v1 d q r : Nat} (G : GuessOf u v1 d q r) : q * v1 + r = u := by
  have := G.rest; rw [← Int.natCast_mul] at this; omega
theorem GuessOf.pos {u v1 d q r : Nat} (_G : GuessOf u v1 d q r) : 0 ≤ (q : Int) * (v1 : Int) := by
  rw [← Int.natCast_mul]; omega

theorem step_parts {k v1 j U : Nat} (h : k * v1 + j = U) (hk : 1 ≤ (k : Int)) : (k - 1) * v1 + (j + v1) = U := by
  have : v1 ≤ k * v1 := Nat.le_mul_of_pos_left _ (by omega)
  rw [Nat.sub_mul]; omega

set_option maxRecDepth 100000 in
set_option maxHeartbeats 4000000 in
theorem div64_core (hi lo y s Y H L U v1 v0 n1 n0 q r u2 q2 r2 d1 d0 Q R : Nat) (w : World) (h0 : 0 < hi) (h1 : hi < y) (_h2 : lo ≤ 18446744073709551615) (h3 : y ≤ 18446744073709551615) (hs : s ≤ 63) (es : Hid (64 - Lib.bitLen y = s))
    (eY : IntKind.u64.wrap ((y : Int) * 2 ^ s) = (Y : Int)) (eH : IntKind.u64.wrap ((hi : Int) * 2 ^ s) = (H : Int)) (eL : IntKind.u64.wrap ((lo : Int) * 2 ^ s) = (L : Int))
    (eU : bits BinOp.or IntKind.u64 (H : Int) ((lo : Int) / 2 ^ (64 - s)) = (U : Int))
    (ev0 : bits BinOp.and IntKind.u64 (Y : Int) 4294967295 = (v0 : Int)) (en0 : bits BinOp.and IntKind.u64 (L : Int) 4294967295 = (n0 : Int))
    (ev1 : (Y : Int) / 4294967296 = (v1 : Int)) (en1 : (L : Int) / 4294967296 = (n1 : Int))
    (b1 : 2147483648 ≤ v1) (b2 : v1 < 4294967296) (_b3 : v0 < 4294967296) (b4 : n1 < 4294967296) (b5 : n0 < 4294967296)
    (D1 : Hid (DigitOf U Y v1 v0 n1 d1)) (G1 : Hid (GuessOf U v1 d1 q r)) (D2 : Hid (DigitOf u2 Y v1 v0 n0 d0)) (G2 : Hid (GuessOf u2 v1 d0 q2 r2))
    (E2 : Hid (IntKind.u64.wrap (IntKind.u64.wrap (IntKind.u64.wrap ((U : Int) * 4294967296) + (n1 : Int)) - IntKind.u64.wrap ((d1 : Int) * (Y : Int))) = (u2 : Int)))
    (F1 : Hid ((d1 : Int) * 4294967296 + (d0 : Int) = (Q : Int)))
    (F2 : Hid (IntKind.u64.wrap (IntKind.u64.wrap (IntKind.u64.wrap ((u2 : Int) * 4294967296) + (n0 : Int)) - IntKind.u64.wrap ((d0 : Int) * (Y : Int))) / 2 ^ s = (R : Int))) :
    Calls Try.prog 46 #[.int .u64 (hi : Int), .int .u64 (lo : Int), .int .u64 (y : Int)] w fun e w' => e = .returned (.tuple #[.int .u64 (Q : Int), .int .u64 (R : Int)]) ∧ w = w' := by
  have y0 : ((y : Int) == 0) = false := by simp; omega
  have hi0 : ((hi : Int) == 0) = false := by simp; omega
  have g1 := G1.out.quo
  have g2 := G1.out.le
  have g3 := G1.out.rest
  have g4 := G1.out.u_le
  have g5 := G1.out.q_le
  have g6 := G1.out.pos
  go_enter Try.func46, Try.ntmps46
  go_wp2_with (go_at_call 47; refine (lz64_any _ _ (by omega)).mono ?_; rintro e w' ⟨rfl, rfl⟩; rw [es.out])
  clear eY eH eL eU ev0 en0 ev1 en1 y0 hi0 g1 g2 g3 g4 g5 g6
  go_loop [15, 16] (fun t u => ∃ k j : Nat, t = .int .u64 (k : Int) ∧ u = .int .u64 (j : Int) ∧ Hid (k * v1 + j = U) ∧ j < 4294967296 ∧ d1 ≤ k ∧ k ≤ 4294967297) (fun t _ => (intOf t).toNat)
  case atStart => exact ⟨q, r, rfl, rfl, Lib.hid G1.out.parts, by have := G1.out.r_lt; omega, G1.out.d_le, G1.out.q_le⟩
  case round =>
    obtain ⟨k, j, rfl, rfl, hkj, hj, hdk, hk⟩ := hrel
    have hj' : (j : Int) < 4294967296 := by omega
    have hd1 : (d1 : Int) < 4294967296 := by have := D1.out.lt_base; omega
    have hd0 : (d0 : Int) < 4294967296 := by have := D2.out.lt_base; omega
    by_cases hlt : d1 < k
    · have T := D1.out.over k j hkj.out hlt
      have hk1 : 1 ≤ (k : Int) := by omega
      by_cases hj2 : 4294967296 ≤ (j : Int) + (v1 : Int)
      · have hkd := D1.out.brk k j hkj.out hlt hk (by omega)
        subst hkd
        by_cases hB : 4294967296 ≤ (d1 : Int) + 1
        · clear T hlt hdk hk hkj
          have e2 := E2.out
          have g1 := G2.out.quo
          have g2 := G2.out.le
          have g3 := G2.out.rest
          have g4 := G2.out.u_le
          have g5 := G2.out.q_le
          have g6 := G2.out.pos
          go_wp2
          clear e2 g1 g2 g3 g4 g5 g6 hB hj hj' hj2 hk1
          go_loop [18, 16] (fun t u => ∃ k j : Nat, t = .int .u64 (k : Int) ∧ u = .int .u64 (j : Int) ∧ Hid (k * v1 + j = u2) ∧ j < 4294967296 ∧ d0 ≤ k ∧ k ≤ 4294967297) (fun t _ => (intOf t).toNat)
          case atStart => exact ⟨q2, r2, rfl, rfl, Lib.hid G2.out.parts, by have := G2.out.r_lt; omega, G2.out.d_le, G2.out.q_le⟩
          case round =>
            obtain ⟨k, j, rfl, rfl, hkj, hj, hdk, hk⟩ := hrel
            have hj' : (j : Int) < 4294967296 := by omega
            by_cases hlt : d0 < k
            · have T := D2.out.over k j hkj.out hlt
              have hk1 : 1 ≤ (k : Int) := by omega
              by_cases hj2 : 4294967296 ≤ (j : Int) + (v1 : Int)
              · have hkd := D2.out.brk k j hkj.out hlt hk (by omega)
                subst hkd
                by_cases hB : 4294967296 ≤ (d0 : Int) + 1
                · clear T hlt hdk hk hkj
                  go_wp2
                  go_ret2
                  exact ⟨ret_two F1.out F2.out, rfl⟩
                · have T1 := T.1 (by omega)
                  have T2 := T.2 (by omega)
                  clear T hlt hdk hk hkj
                  simp only [Int.natCast_add, Int.natCast_one] at T1 T2
                  go_wp2
                  go_ret2
                  exact ⟨ret_two F1.out F2.out, rfl⟩
              · by_cases hB : 4294967296 ≤ (k : Int)
                · clear T
                  go_wp2
                  go_round
                  case rel => exact ⟨k - 1, j + v1, by go_num, by go_num, Lib.hid (step_parts hkj.out hk1), by omega, by omega, by omega⟩
                  case measure => simp [intOf]; omega
                · have T1 := T.1 (by omega)
                  have T2 := T.2 (by omega)
                  clear T
                  go_wp2
                  go_round
                  case rel => exact ⟨k - 1, j + v1, by go_num, by go_num, Lib.hid (step_parts hkj.out hk1), by omega, by omega, by omega⟩
                  case measure => simp [intOf]; omega
            · have hkd : d0 = k := by omega
              subst hkd
              have T := D2.out.under j hkj.out
              obtain ⟨T1, T2⟩ := T
              have hB : ¬ 4294967296 ≤ (d0 : Int) := by omega
              have T0 : 0 ≤ (d0 : Int) * (v0 : Int) := by rw [← Int.natCast_mul]; omega
              have T3 : decide (4294967296 * (j : Int) + (n0 : Int) < (d0 : Int) * (v0 : Int)) = false := decide_eq_false (by omega)
              clear T1
              clear hlt hdk hk hkj
              go_wp2
              go_ret2
              exact ⟨ret_two F1.out F2.out, rfl⟩
        · have T1 := T.1 (by omega)
          have T2 := T.2 (by omega)
          clear T hlt hdk hk hkj
          simp only [Int.natCast_add, Int.natCast_one] at T1 T2
          have e2 := E2.out
          have g1 := G2.out.quo
          have g2 := G2.out.le
          have g3 := G2.out.rest
          have g4 := G2.out.u_le
          have g5 := G2.out.q_le
          have g6 := G2.out.pos
          go_wp2
          clear e2 g1 g2 g3 g4 g5 g6 hB hj hj' hj2 hk1 T1 T2
          go_loop [18, 16] (fun t u => ∃ k j : Nat, t = .int .u64 (k : Int) ∧ u = .int .u64 (j : Int) ∧ Hid (k * v1 + j = u2) ∧ j < 4294967296 ∧ d0 ≤ k ∧ k ≤ 4294967297) (fun t _ => (intOf t).toNat)
          case atStart => exact ⟨q2, r2, rfl, rfl, Lib.hid G2.out.parts, by have := G2.out.r_lt; omega, G2.out.d_le, G2.out.q_le⟩
          case round =>
            obtain ⟨k, j, rfl, rfl, hkj, hj, hdk, hk⟩ := hrel
            have hj' : (j : Int) < 4294967296 := by omega
            by_cases hlt : d0 < k
            · have T := D2.out.over k j hkj.out hlt
              have hk1 : 1 ≤ (k : Int) := by omega
              by_cases hj2 : 4294967296 ≤ (j : Int) + (v1 : Int)
              · have hkd := D2.out.brk k j hkj.out hlt hk (by omega)
                subst hkd
                by_cases hB : 4294967296 ≤ (d0 : Int) + 1
                · clear T hlt hdk hk hkj
                  go_wp2
                  go_ret2
                  exact ⟨ret_two F1.out F2.out, rfl⟩
                · have T1 := T.1 (by omega)
                  have T2 := T.2 (by omega)
                  clear T hlt hdk hk hkj
                  simp only [Int.natCast_add, Int.natCast_one] at T1 T2
                  go_wp2
                  go_ret2
                  exact ⟨ret_two F1.out F2.out, rfl⟩
              · by_cases hB : 4294967296 ≤ (k : Int)
                · clear T
                  go_wp2
                  go_round
                  case rel => exact ⟨k - 1, j + v1, by go_num, by go_num, Lib.hid (step_parts hkj.out hk1), by omega, by omega, by omega⟩
                  case measure => simp [intOf]; omega
                · have T1 := T.1 (by omega)
                  have T2 := T.2 (by omega)
                  clear T
                  go_wp2
                  go_round
                  case rel => exact ⟨k - 1, j + v1, by go_num, by go_num, Lib.hid (step_parts hkj.out hk1), by omega, by omega, by omega⟩
                  case measure => simp [intOf]; omega
            · have hkd : d0 = k := by omega
              subst hkd
              have T := D2.out.under j hkj.out
              obtain ⟨T1, T2⟩ := T
              have hB : ¬ 4294967296 ≤ (d0 : Int) := by omega
              have T0 : 0 ≤ (d0 : Int) * (v0 : Int) := by rw [← Int.natCast_mul]; omega
              have T3 : decide (4294967296 * (j : Int) + (n0 : Int) < (d0 : Int) * (v0 : Int)) = false := decide_eq_false (by omega)
              clear T1
              clear hlt hdk hk hkj
              go_wp2
              go_ret2
              exact ⟨ret_two F1.out F2.out, rfl⟩
      · by_cases hB : 4294967296 ≤ (k : Int)
        · clear T
          go_wp2
          go_round
          case rel => exact ⟨k - 1, j + v1, by go_num, by go_num, Lib.hid (step_parts hkj.out hk1), by omega, by omega, by omega⟩
          case measure => simp [intOf]; omega
        · have T1 := T.1 (by omega)
          have T2 := T.2 (by omega)
          clear T
          go_wp2
          go_round
          case rel => exact ⟨k - 1, j + v1, by go_num, by go_num, Lib.hid (step_parts hkj.out hk1), by omega, by omega, by omega⟩
          case measure => simp [intOf]; omega
    · have hkd : d1 = k := by omega
      subst hkd
      have T := D1.out.under j hkj.out
      obtain ⟨T1, T2⟩ := T
      have hB : ¬ 4294967296 ≤ (d1 : Int) := by omega
      have T0 : 0 ≤ (d1 : Int) * (v0 : Int) := by rw [← Int.natCast_mul]; omega
      have T3 : decide (4294967296 * (j : Int) + (n1 : Int) < (d1 : Int) * (v0 : Int)) = false := decide_eq_false (by omega)
      clear T1
      clear hlt hdk hk hkj
      have e2 := E2.out
      have g1 := G2.out.quo
      have g2 := G2.out.le
      have g3 := G2.out.rest
      have g4 := G2.out.u_le
      have g5 := G2.out.q_le
      have g6 := G2.out.pos
      go_wp2
      clear e2 g1 g2 g3 g4 g5 g6 hB hj hj' T0 T2 T3
      go_loop [18, 16] (fun t u => ∃ k j : Nat, t = .int .u64 (k : Int) ∧ u = .int .u64 (j : Int) ∧ Hid (k * v1 + j = u2) ∧ j < 4294967296 ∧ d0 ≤ k ∧ k ≤ 4294967297) (fun t _ => (intOf t).toNat)
      case atStart => exact ⟨q2, r2, rfl, rfl, Lib.hid G2.out.parts, by have := G2.out.r_lt; omega, G2.out.d_le, G2.out.q_le⟩
      case round =>
        obtain ⟨k, j, rfl, rfl, hkj, hj, hdk, hk⟩ := hrel
        have hj' : (j : Int) < 4294967296 := by omega
        by_cases hlt : d0 < k
        · have T := D2.out.over k j hkj.out hlt
          have hk1 : 1 ≤ (k : Int) := by omega
          by_cases hj2 : 4294967296 ≤ (j : Int) + (v1 : Int)
          · have hkd := D2.out.brk k j hkj.out hlt hk (by omega)
            subst hkd
            by_cases hB : 4294967296 ≤ (d0 : Int) + 1
            · clear T hlt hdk hk hkj
              go_wp2
              go_ret2
              exact ⟨ret_two F1.out F2.out, rfl⟩
            · have T1 := T.1 (by omega)
              have T2 := T.2 (by omega)
              clear T hlt hdk hk hkj
              simp only [Int.natCast_add, Int.natCast_one] at T1 T2
              go_wp2
              go_ret2
              exact ⟨ret_two F1.out F2.out, rfl⟩
          · by_cases hB : 4294967296 ≤ (k : Int)
            · clear T
              go_wp2
              go_round
              case rel => exact ⟨k - 1, j + v1, by go_num, by go_num, Lib.hid (step_parts hkj.out hk1), by omega, by omega, by omega⟩
              case measure => simp [intOf]; omega
            · have T1 := T.1 (by omega)
              have T2 := T.2 (by omega)
              clear T
              go_wp2
              go_round
              case rel => exact ⟨k - 1, j + v1, by go_num, by go_num, Lib.hid (step_parts hkj.out hk1), by omega, by omega, by omega⟩
              case measure => simp [intOf]; omega
        · have hkd : d0 = k := by omega
          subst hkd
          have T := D2.out.under j hkj.out
          obtain ⟨T1, T2⟩ := T
          have hB : ¬ 4294967296 ≤ (d0 : Int) := by omega
          have T0 : 0 ≤ (d0 : Int) * (v0 : Int) := by rw [← Int.natCast_mul]; omega
          have T3 : decide (4294967296 * (j : Int) + (n0 : Int) < (d0 : Int) * (v0 : Int)) = false := decide_eq_false (by omega)
          clear T1
          clear hlt hdk hk hkj
          go_wp2
          go_ret2
          exact ⟨ret_two F1.out F2.out, rfl⟩
end Go.Proofs.Ytphbeghflbkpgaa

/- The contract of math/bits.Div64, for every dividend whose high cell is below the divisor; the contract of divide. -/
namespace Go.Proofs.Ytphbeghflbkpgaa
open Go.RowKit

theorem bitLenAux_bounds : ∀ (f x : Nat), x < 2 ^ f → x < 2 ^ Lib.bitLenAux f x ∧ (0 < x → 2 ^ Lib.bitLenAux f x ≤ 2 * x)
  | 0, x, h => by
    have : x = 0 := by simpa using h
    subst this
    simp [Lib.bitLenAux]
  | f + 1, x, h => by
    by_cases h0 : x = 0
    · subst h0; simp [Lib.bitLenAux]
    · have ih := bitLenAux_bounds f (x / 2) (by rw [Nat.pow_succ] at h; omega)
      simp only [Lib.bitLenAux, h0, if_false]
      rw [Nat.add_comm 1, Nat.pow_succ]
      refine ⟨by omega, fun _ => ?_⟩
      by_cases h1 : x / 2 = 0
      · rw [h1]
        have : Lib.bitLenAux f 0 = 0 := by cases f <;> simp [Lib.bitLenAux]
        rw [this]
        omega
      · have := ih.2 (by omega)
        omega

theorem bitLen_bounds (x : Nat) (h : x < 18446744073709551616) (h0 : 0 < x) : x < 2 ^ Lib.bitLen x ∧ 2 ^ Lib.bitLen x ≤ 2 * x ∧ Lib.bitLen x ≤ 64 ∧ 1 ≤ Lib.bitLen x := by
  have hb := bitLenAux_bounds 64 x (by simpa using h)
  have hl : Lib.bitLen x ≤ 64 := Lib.bitLen_le x 64 (by omega) (by simpa using h)
  refine ⟨hb.1, hb.2 h0, hl, ?_⟩
  have h1 := hb.1
  unfold Lib.bitLen
  by_cases h2 : Lib.bitLenAux 64 x = 0
  · rw [h2] at h1; simp at h1; omega
  · omega

theorem shift_norm (y s : Nat) (hy : 0 < y) (h : y < 18446744073709551616) (es : 64 - Lib.bitLen y = s) : s ≤ 63 ∧ 9223372036854775808 ≤ y * 2 ^ s ∧ y * 2 ^ s < 18446744073709551616 := by
  obtain ⟨h1, h2, h3, h4⟩ := bitLen_bounds y h hy
  generalize Lib.bitLen y = b at *
  subst es
  have e : 2 ^ b * 2 ^ (64 - b) = 18446744073709551616 := by rw [← Nat.pow_add, show b + (64 - b) = 64 by omega]
  have hp : 0 < 2 ^ (64 - b) := Nat.two_pow_pos _
  refine ⟨by omega, ?_, ?_⟩
  · have : 2 ^ b * 2 ^ (64 - b) ≤ 2 * y * 2 ^ (64 - b) := Nat.mul_le_mul_right _ h2
    rw [Nat.mul_assoc] at this
    omega
  · have : y * 2 ^ (64 - b) < 2 ^ b * 2 ^ (64 - b) := Nat.mul_lt_mul_of_pos_right h1 hp
    omega

/-- The dividend, shifted: its high part, its low part. -/
theorem shift_parts (hi lo y s : Nat) (hs : s ≤ 63) (h1 : hi < y) (hl : lo < 18446744073709551616) (hY : y * 2 ^ s < 18446744073709551616) :
    hi * 2 ^ s < 18446744073709551616 ∧ hi * 2 ^ s ||| lo / 2 ^ (64 - s) = hi * 2 ^ s + lo / 2 ^ (64 - s) ∧ hi * 2 ^ s + lo / 2 ^ (64 - s) < y * 2 ^ s ∧
    (hi * 18446744073709551616 + lo) * 2 ^ s = (hi * 2 ^ s + lo / 2 ^ (64 - s)) * 18446744073709551616 + lo * 2 ^ s % 18446744073709551616 ∧ lo / 2 ^ (64 - s) < 18446744073709551616 := by
  have hp : 0 < 2 ^ s := Nat.two_pow_pos _
  have e : 2 ^ (64 - s) * 2 ^ s = 18446744073709551616 := by rw [← Nat.pow_add, show 64 - s + s = 64 by omega]
  have hT : lo / 2 ^ (64 - s) < 2 ^ s := by
    refine Nat.div_lt_of_lt_mul ?_
    omega
  have hH : hi * 2 ^ s + 2 ^ s ≤ y * 2 ^ s := by
    have : (hi + 1) * 2 ^ s ≤ y * 2 ^ s := Nat.mul_le_mul_right _ h1
    rw [Nat.add_mul] at this
    omega
  have ed : lo * 2 ^ s / 18446744073709551616 = lo / 2 ^ (64 - s) := by
    rw [← e]; exact Nat.mul_div_mul_right _ _ hp
  have hm := Nat.div_add_mod (lo * 2 ^ s) 18446744073709551616
  rw [ed] at hm
  refine ⟨by omega, ?_, by omega, ?_, by omega⟩
  · have := Nat.two_pow_add_eq_or_of_lt hT hi
    rw [Nat.mul_comm] at this
    exact this.symm
  · rw [Nat.add_mul, Nat.add_mul, Nat.mul_right_comm]
    omega

theorem digit_mk (u v n : Nat) (hv : 9223372036854775808 ≤ v) (hv2 : v < 18446744073709551616) (hu : u < v) (hn : n < 4294967296) :
    DigitOf u v (v / 4294967296) (v % 4294967296) n ((u * 4294967296 + n) / v) ∧
    GuessOf u (v / 4294967296) ((u * 4294967296 + n) / v) (u / (v / 4294967296)) (u % (v / 4294967296)) := by
  have e : v / 4294967296 * 4294967296 + v % 4294967296 = v := by omega
  have h1 : 2147483648 ≤ v / 4294967296 := by omega
  refine ⟨⟨e, hu, hn, by omega, h1, by omega, rfl⟩, ⟨by rw [← Int.natCast_ediv], ?_, ?_, by omega, ?_, Nat.mod_lt _ (by omega), ?_⟩⟩
  · rw [← Int.natCast_mul]
    have := Nat.div_mul_le_self u (v / 4294967296)
    omega
  · rw [← Int.natCast_mul]
    have := Nat.div_add_mod u (v / 4294967296)
    rw [Nat.mul_comm] at this
    omega
  · exact Plain.guess_le 4294967296 (v / 4294967296) (v % 4294967296) u (by omega) (by omega) (by omega) (by omega)
  · have := Plain.guess_ge 4294967296 (v / 4294967296) (v % 4294967296) u n (by omega) hn
    rw [e] at this
    exact this

theorem wrap_rest (u n d v r : Nat) (h : u * 4294967296 + n = v * d + r) (hr : r < 18446744073709551616) :
    IntKind.u64.wrap (IntKind.u64.wrap (IntKind.u64.wrap ((u : Int) * 4294967296) + (n : Int)) - IntKind.u64.wrap ((d : Int) * (v : Int))) = (r : Int) := by
  have e : (d : Int) * (v : Int) = ((v * d : Nat) : Int) := by rw [Int.natCast_mul, Int.mul_comm]
  rw [e]
  generalize v * d = p at *
  simp only [IntKind.wrap_u64]
  omega

theorem wrap_rest' (u n v : Nat) (hv : 0 < v) (hv2 : v < 18446744073709551616) :
    IntKind.u64.wrap (IntKind.u64.wrap (IntKind.u64.wrap ((u : Int) * 4294967296) + (n : Int)) - IntKind.u64.wrap (((u * 4294967296 + n) / v : Nat) * (v : Int))) = (((u * 4294967296 + n) % v : Nat) : Int) := by
  have m := Nat.div_add_mod (u * 4294967296 + n) v
  have l : (u * 4294967296 + n) % v < v := Nat.mod_lt _ hv
  generalize (u * 4294967296 + n) / v = d at *
  generalize (u * 4294967296 + n) % v = r at *
  exact wrap_rest u n d v r (by omega) (by omega)

theorem div64_any (hi lo y : Nat) (w : World) (h1 : hi < y) (h2 : lo < 18446744073709551616) (h3 : y < 18446744073709551616) :
    Calls Try.prog 46 #[.int .u64 (hi : Int), .int .u64 (lo : Int), .int .u64 (y : Int)] w fun e w' => e = .returned (.tuple #[.int .u64 (((hi * 18446744073709551616 + lo) / y : Nat) : Int), .int .u64 (((hi * 18446744073709551616 + lo) % y : Nat) : Int)]) ∧ Below w.heap.size w w' := by
  by_cases h0 : hi = 0
  · subst h0
    refine (div64_low lo y w (by omega) (by omega)).mono fun e w' h => ?_
    simpa using h
  · obtain ⟨s, es⟩ : ∃ s, 64 - Lib.bitLen y = s := ⟨_, rfl⟩
    obtain ⟨hs, hY1, hY2⟩ := shift_norm y s (by omega) h3 es
    obtain ⟨k1, k2, k3, k4, k5⟩ := shift_parts hi lo y s hs h1 h2 hY2
    have hp : 0 < 2 ^ s := Nat.two_pow_pos _
    have sc := Plain.scaled (hi * 18446744073709551616 + lo) y (2 ^ s) hp
    rw [k4] at sc
    generalize hY : y * 2 ^ s = Y at *
    generalize hH : hi * 2 ^ s = H at *
    generalize hL : lo * 2 ^ s % 18446744073709551616 = L at *
    generalize hT : lo / 2 ^ (64 - s) = T at *
    have hL2 : L < 18446744073709551616 := by omega
    obtain ⟨D1, G1⟩ := digit_mk (H + T) Y (L / 4294967296) hY1 hY2 k3 (by omega)
    have hu2 : ((H + T) * 4294967296 + L / 4294967296) % Y < Y := Nat.mod_lt _ (by omega)
    obtain ⟨D2, G2⟩ := digit_mk (((H + T) * 4294967296 + L / 4294967296) % Y) Y (L % 4294967296) hY1 hY2 hu2 (by omega)
    have td := Plain.two_digits 4294967296 Y (H + T) (L / 4294967296) (L % 4294967296) (by omega) (by omega)
    have eN : ((H + T) * 4294967296 + L / 4294967296) * 4294967296 + L % 4294967296 = (H + T) * 18446744073709551616 + L := by omega
    rw [eN, sc.1] at td
    refine (div64_core hi lo y s Y H L (H + T) (Y / 4294967296) (Y % 4294967296) (L / 4294967296) (L % 4294967296) _ _ _ _ _ _ _ ((hi * 18446744073709551616 + lo) / y) ((hi * 18446744073709551616 + lo) % y) w (by omega) h1 (by omega) (by omega) hs (Lib.hid es)
      ?_ ?_ ?_ ?_ ?_ ?_ ?_ ?_ (by omega) (by omega) (by omega) (by omega) (by omega) (Lib.hid D1) (Lib.hid G1) (Lib.hid D2) (Lib.hid G2) (Lib.hid ?_) (Lib.hid ?_) (Lib.hid ?_)).mono fun e w' ⟨he, hw⟩ => ⟨he, hw ▸ Below.refl _ _⟩
    · rw [← un_nat Y hY2, ← hY]; simp
    · rw [← un_nat H k1, ← hH]; simp
    · rw [IntKind.wrap_u64, ← hL]; simp
    · have : ((lo : Int) / 2 ^ (64 - s)) = (T : Int) := by rw [← hT]; simp
      rw [this, bits_or_u64_nat _ _ k1 k5, k2]
    · have := bits_and_u64_nat Y 4294967295 hY2 (by omega)
      rw [Nat.and_two_pow_sub_one_eq_mod Y 32] at this
      exact this
    · have := bits_and_u64_nat L 4294967295 hL2 (by omega)
      rw [Nat.and_two_pow_sub_one_eq_mod L 32] at this
      exact this
    · omega
    · omega
    · exact wrap_rest' (H + T) (L / 4294967296) Y (by omega) hY2
    · rw [← td.1]; simp
    · have := wrap_rest' (((H + T) * 4294967296 + L / 4294967296) % Y) (L % 4294967296) Y (by omega) hY2
      rw [this, td.2, ← sc.2]
      simp
end Go.Proofs.Ytphbeghflbkpgaa

/- Contracts of divide, UDiv, SDiv and FDiv of package cell. -/
namespace Go.Proofs.Ytphbeghflbkpgaa
open Go.RowKit

set_option maxHeartbeats 400000 in
theorem divide_zero (lo hi : Int) (w : World) :
    Calls Try.prog 44 #[.int .u64 lo, .int .u64 hi, .int .u64 0] w fun e w' => e = .returned (.tuple #[.int .u64 0, .int .u64 0, .int .i64 (-10)]) ∧ Below w.heap.size w w' := by
  go_enter Try.func44, Try.ntmps44
  go_wp2
  go_ret3
  exact ⟨rfl, Below.refl _ _⟩

set_option maxHeartbeats 400000 in
theorem divide_range (lo hi d : Nat) (w : World) (h : d ≤ hi) (hd : 0 < d) :
    Calls Try.prog 44 #[.int .u64 (lo : Int), .int .u64 (hi : Int), .int .u64 (d : Int)] w fun e w' => e = .returned (.tuple #[.int .u64 0, .int .u64 0, .int .i64 (-11)]) ∧ Below w.heap.size w w' := by
  have h0 : ((d : Int) == 0) = false := by simp; omega
  have h1 : (d : Int) ≤ (hi : Int) := by omega
  go_enter Try.func44, Try.ntmps44
  go_wp2
  go_ret3
  exact ⟨rfl, Below.refl _ _⟩

set_option maxHeartbeats 400000 in
theorem divide_ok (lo hi d Q R : Nat) (w : World) (h : hi < d) (hl : lo < 18446744073709551616) (hd : d < 18446744073709551616) (hQ : Hid ((hi * 18446744073709551616 + lo) / d = Q)) (hR : Hid ((hi * 18446744073709551616 + lo) % d = R)) :
    Calls Try.prog 44 #[.int .u64 (lo : Int), .int .u64 (hi : Int), .int .u64 (d : Int)] w fun e w' => e = .returned (.tuple #[.int .u64 (Q : Int), .int .u64 (R : Int), .int .i64 0]) ∧ Below w.heap.size w w' := by
  have h0 : ((d : Int) == 0) = false := by simp; omega
  have h1 : ¬ (d : Int) ≤ (hi : Int) := by omega
  have HC := div64_any hi lo d w h hl hd
  rw [hQ.out, hR.out] at HC
  clear hl hd
  go_enter Try.func44, Try.ntmps44
  go_wp2_with (go_at_call 46; refine HC.mono ?_; rintro e w1 ⟨rfl, hb⟩)
  go_ret3
  exact ⟨rfl, hb⟩

theorem uok_true {hi d : Int} (h : uok hi d = true) : un hi < un d := by simpa [uok] using h
theorem uok_false {hi d : Int} (h : uok hi d = false) : un d ≤ un hi := by simpa [uok] using h

set_option maxHeartbeats 400000 in
theorem udiv_any (lo hi d : Int) (w : World) (hd : cellR d) :
    Calls Try.prog 41 #[.int .i64 lo, .int .i64 hi, .int .i64 d] w fun e w' => e = .returned (.tuple #[.int .i64 (uq lo hi d), .int .i64 (ur lo hi d), .int .i64 (uc hi d)]) ∧ Below w.heap.size w w' := by
  have e1 := un_cast lo
  have e2 := un_cast hi
  have e3 := un_cast d
  have b1 := Lib.hid (un_lt lo)
  have b3 := Lib.hid (un_lt d)
  by_cases h0 : d = 0
  · have e4 : un d = 0 := (un_zero hd).2 h0
    have hk : uok hi d = false := by simp [uok, e4]
    clear hd
    have e5 : IntKind.u64.wrap d = 0 := by rw [e3, e4]; rfl
    subst h0
    have H := Lib.hid hk
    clear e3 e4 hk
    go_enter Try.func41, Try.ntmps41
    go_wp2_with (go_at_call 44; refine (divide_zero _ _ _).mono ?_; rintro e w1 ⟨rfl, hb⟩)
    go_ret3
    exact ⟨ret_three (by simp [uq, H.out]) (by simp [ur, H.out]) (by simp [uc]), hb⟩
  · have h4 : un d ≠ 0 := fun h => h0 ((un_zero hd).1 h)
    clear hd
    cases hk : uok hi d
    · have h5 := uok_false hk
      have H := Lib.hid hk
      clear hk
      go_enter Try.func41, Try.ntmps41
      go_wp2_with (go_at_call 44; refine (divide_range _ _ _ _ (by omega) (by omega)).mono ?_; rintro e w1 ⟨rfl, hb⟩)
      go_ret3
      exact ⟨ret_three (by simp [uq, H.out]) (by simp [ur, H.out]) (by simp [uc, h0, H.out]), hb⟩
    · have h5 := uok_true hk
      have H := Lib.hid hk
      clear hk
      obtain ⟨Q, hQ⟩ : ∃ Q : Nat, Hid ((un hi * 18446744073709551616 + un lo) / un d = Q) := ⟨_, Lib.hid rfl⟩
      obtain ⟨R, hR⟩ : ∃ R : Nat, Hid ((un hi * 18446744073709551616 + un lo) % un d = R) := ⟨_, Lib.hid rfl⟩
      go_enter Try.func41, Try.ntmps41
      go_wp2_with (go_at_call 44; refine (divide_ok _ _ _ Q R _ h5 b1.out b3.out hQ hR).mono ?_; rintro e w1 ⟨rfl, hb⟩)
      go_ret3
      exact ⟨ret_three (by rw [uq, if_pos H.out, hQ.out]) (by rw [ur, if_pos H.out, hR.out]) (by rw [uc, if_neg h0, if_pos H.out]), hb⟩

theorem pair_abs (lo hi : Int) : (pr lo hi).natAbs / 18446744073709551616 * 18446744073709551616 + (pr lo hi).natAbs % 18446744073709551616 = (pr lo hi).natAbs := by omega

end Go.Proofs.Ytphbeghflbkpgaa

/- Contracts of num's UShow and Show. -/
namespace Go.Proofs.Ytphbeghflbkpgaa
open Go.RowKit
set_option linter.unusedVariables false
set_option linter.unusedSimpArgs false

theorem conv_row {w : World} {v : Value} {l : List UInt8} (h : Byt w v l) (hne : l ≠ []) : (convert 22 9 v).run Try.prog w = .ok (.string (strB l)) w := by
  obtain ⟨A, c, rfl, _, _, hli⟩ := h
  rcases hli with h | ⟨g, o, rfl, _, hc⟩
  · have := congrArg List.length h
    rw [u8s_len] at this
    exact absurd (List.eq_nil_of_length_eq_zero this) hne
  · refine run_convert_bytes_back w 22 9 5 ⟨g, o, none⟩ c l Try.underlying22 Try.underlying5 Try.underlying9 fun j hj => ?_
    have := hc j (encB l[j]) (by unfold u8s; rw [List.getElem?_map, List.getElem?_eq_getElem hj]; rfl)
    rw [← this, add_at]
theorem BOwns.keep {w w' : World} {base n : Nat} {v : Value} {l : List UInt8} (h : BOwns w base v n l) (b : Below w.heap.size w w') : BOwns w' base v n l := by
  refine ⟨h.1, ?_⟩
  rcases h.2 with h2 | ⟨g, cap, cur, e, hb, hg, h3, h4, h5, h6⟩
  · exact .inl h2
  · exact .inr ⟨g, cap, cur, e, hb, (b.block g (Array.getElem?_eq_some_iff.1 hg).1).trans hg, h3, h4, h5, h6⟩
theorem udiv_facts (N : Int) (u k : Nat) (hu : un N = u) (h2 : 2 ≤ k) (h36 : k ≤ 36) : uq N 0 (k : Int) = ((u / k : Nat) : Int) ∧ ur N 0 (k : Int) = ((u % k : Nat) : Int) ∧ uc 0 (k : Int) = 0 := by
  have e0 : un 0 = 0 := by decide +kernel
  have ek : un (k : Int) = k := by have := un_mod (k : Int); omega
  have hlt := un_lt N
  have ok : uok 0 (k : Int) = true := by unfold uok; rw [e0, ek]; simp; omega
  have hq : u / k < 9223372036854775808 := by
    rw [Nat.div_lt_iff_lt_mul (by omega)]
    omega
  have hr : u % k < k := Nat.mod_lt _ (by omega)
  refine ⟨?_, ?_, ?_⟩
  · unfold uq
    rw [if_pos ok, e0, ek, hu, Nat.zero_mul, Nat.zero_add]
    generalize u / k = q at hq ⊢
    exact w64_id (by omega) (by omega)
  · unfold ur
    rw [if_pos ok, e0, ek, hu, Nat.zero_mul, Nat.zero_add]
    generalize u % k = r at hr ⊢
    exact w64_id (by omega) (by omega)
  · unfold uc
    rw [if_neg (by omega), if_pos ok]
/-- What a number's text is made of: what is to come yet, ahead of the digits that were laid, the last one first. -/
def Half (k u0 u : Nat) (m : Bool) (l : List UInt8) : Prop := (m = true → usF k u0 = usF k u ++ l.reverse) ∧ (m = false → usF k u0 = l.reverse)
theorem Half.low {k u0 u : Nat} {l : List UInt8} (h : Half k u0 u true l) (h2 : 2 ≤ k) (hu : u < k) : Half k u0 (u / k) false (l ++ [UInt8.ofNat (digN (u % k))]) := by
  refine ⟨fun h => (by cases h), fun _ => ?_⟩
  rw [h.1 rfl, usF_low hu, Nat.mod_eq_of_lt hu]
  simp
theorem Half.len {k u0 u : Nat} {m : Bool} {l : List UInt8} (h : Half k u0 u m l) (h2 : 2 ≤ k) (h0 : u0 < 18446744073709551616) : l.length ≤ 64 := by
  have hl := us_le h2 63 u0 (by omega)
  cases m with
  | true => rw [h.1 rfl, List.length_append, List.length_reverse] at hl; omega
  | false => rw [h.2 rfl, List.length_reverse] at hl; omega
theorem byt_one (w : World) (x : UInt8) : Byt (w.alloc (.cells #[.int .u8 (x.toNat : Int)] 5)) (.slice (some ⟨w.heap.size, 0, none⟩) 1 1) [x] := byt_block (l := [x]) (one_newN w _ _) (by simp)
theorem bown_app {w : World} {base : Nat} {v : Value} {l : List UInt8} {x : UInt8} (h : BOwns w base v (l.length + 1) (l ++ [x])) : BOwns w base v (l ++ [x]).length (l ++ [x]) := by
  have e : (l ++ [x]).length = l.length + 1 := by simp
  rw [e]; exact h
end Go.Proofs.Ytphbeghflbkpgaa

/- Plain arithmetic of products that are divided again. No model's run is named here. -/
namespace Go.Proofs.Ytphbeghflbkpgaa
open Go.RowKit

theorem prod_small (A B p : Nat) (hA : A < 18446744073709551616) (hB : B < 18446744073709551616) (hp : A * B = p) : p / 18446744073709551616 < 18446744073709551616 := by
  have : A * B ≤ 18446744073709551615 * 18446744073709551615 := Nat.mul_le_mul (by omega) (by omega)
  omega
end Go.Proofs.Ytphbeghflbkpgaa

/- Contracts of the document's own answers for layer 1 that only compute: ULess, Div, size, turned, umul, UMul, Mul. -/
namespace Go.Proofs.Ytphbeghflbkpgaa
open Go.RowKit

set_option maxHeartbeats 1000000 in
theorem rumul_core (x y x0 x1 y0 y1 p pl ph m1 q ql qh m2 r rl rh m3 lo hi : Nat) (w : World)
    (bx : (x : Int) ≤ 18446744073709551615) (bY : (y : Int) ≤ 18446744073709551615) (bp : (p : Int) ≤ 18446744073709551615) (bq : (q : Int) ≤ 18446744073709551615) (br : (r : Int) ≤ 18446744073709551615)
    (b1 : (m1 : Int) ≤ 18446744073709551615) (b2 : (m2 : Int) ≤ 18446744073709551615) (b3 : (m3 : Int) ≤ 18446744073709551615) (bl : (rl : Int) < 4294967296) (bm : (pl : Int) < 4294967296) (bh : (m3 : Int) + (qh : Int) + (rh : Int) ≤ 18446744073709551615)
    (ex0 : (x : Int) % 4294967296 = (x0 : Int)) (ex1 : (x : Int) / 4294967296 = (x1 : Int)) (ey0 : (y : Int) % 4294967296 = (y0 : Int)) (ey1 : (y : Int) / 4294967296 = (y1 : Int))
    (ep : (x0 : Int) * (y0 : Int) = (p : Int)) (epl : (p : Int) % 4294967296 = (pl : Int)) (eph : (p : Int) / 4294967296 = (ph : Int))
    (em1 : (x1 : Int) * (y0 : Int) = (m1 : Int)) (eq : (m1 : Int) + (ph : Int) = (q : Int)) (eql : (q : Int) % 4294967296 = (ql : Int)) (eqh : (q : Int) / 4294967296 = (qh : Int))
    (em2 : (x0 : Int) * (y1 : Int) = (m2 : Int)) (er : (m2 : Int) + (ql : Int) = (r : Int)) (erl : (r : Int) % 4294967296 = (rl : Int)) (erh : (r : Int) / 4294967296 = (rh : Int))
    (em3 : (x1 : Int) * (y1 : Int) = (m3 : Int))
    (elo : Hid (4294967296 * (rl : Int) + (pl : Int) = (lo : Int))) (ehi : Hid ((m3 : Int) + (qh : Int) + (rh : Int) = (hi : Int))) :
    Calls Try.prog 38 #[.int .u64 (x : Int), .int .u64 (y : Int)] w fun e w' => e = .returned (.tuple #[.int .u64 (lo : Int), .int .u64 (hi : Int)]) ∧ Below w.heap.size w w' := by
  go_enter Try.func38, Try.ntmps38
  go_wp2
  go_quiet (fail)
  go_wp2
  go_ret2
  exact ⟨ret_two elo.out ehi.out, drew_below _ _⟩

/-- The school's way by halves. -/
theorem halves_lo (x y : Nat) (hx : x < 18446744073709551616) (hy : y < 18446744073709551616) (p q r : Nat) (hp : x % 4294967296 * (y % 4294967296) = p) (hq : x / 4294967296 * (y % 4294967296) + p / 4294967296 = q) (hr : x % 4294967296 * (y / 4294967296) + q % 4294967296 = r) :
    4294967296 * (r % 4294967296) + p % 4294967296 = x * y % 18446744073709551616 := by
  have e : x * y = (x / 4294967296) * (y / 4294967296) * (4294967296 * 4294967296) + ((x / 4294967296) * (y % 4294967296) + (x % 4294967296) * (y / 4294967296)) * 4294967296 + (x % 4294967296) * (y % 4294967296) := by
    rw [← Lib.split_mul, Nat.div_add_mod' x 4294967296, Nat.div_add_mod' y 4294967296]
  have ha := Lib.half_mul_le (a := x / 4294967296) (b := y / 4294967296) (by omega) (by omega)
  rw [e]
  generalize (x / 4294967296) * (y / 4294967296) = a at *
  generalize (x / 4294967296) * (y % 4294967296) = b at *
  generalize (x % 4294967296) * (y / 4294967296) = c at *
  generalize (x % 4294967296) * (y % 4294967296) = d at *
  omega

theorem rumulN_any (x y : Nat) (w : World) (hx : x < 18446744073709551616) (hy : y < 18446744073709551616) :
    Calls Try.prog 38 #[.int .u64 (x : Int), .int .u64 (y : Int)] w fun e w' => e = .returned (.tuple #[.int .u64 ((x * y % 18446744073709551616 : Nat) : Int), .int .u64 ((x * y / 18446744073709551616 : Nat) : Int)]) ∧ Below w.heap.size w w' := by
  obtain ⟨bd, bt, bw, hhi⟩ := Lib.mul64_hi x y hx hy
  have ba := Lib.half_mul_le (a := x / 4294967296) (b := y / 4294967296) (by omega) (by omega)
  have bb := Lib.half_mul_le (a := x / 4294967296) (b := y % 4294967296) (by omega) (by omega)
  have bc := Lib.half_mul_le (a := x % 4294967296) (b := y / 4294967296) (by omega) (by omega)
  obtain ⟨p, hp⟩ : ∃ p, x % 4294967296 * (y % 4294967296) = p := ⟨_, rfl⟩
  rw [hp] at bd bt bw hhi
  obtain ⟨m1, hm1⟩ : ∃ m, x / 4294967296 * (y % 4294967296) = m := ⟨_, rfl⟩
  rw [hm1] at bt bw hhi bb
  obtain ⟨m2, hm2⟩ : ∃ m, x % 4294967296 * (y / 4294967296) = m := ⟨_, rfl⟩
  rw [hm2] at bw hhi bc
  obtain ⟨m3, hm3⟩ : ∃ m, x / 4294967296 * (y / 4294967296) = m := ⟨_, rfl⟩
  rw [hm3] at hhi ba
  have hlo := halves_lo x y hx hy p (m1 + p / 4294967296) (m2 + (m1 + p / 4294967296) % 4294967296) hp (by rw [hm1]) (by rw [hm2])
  obtain ⟨q, hq⟩ : ∃ q, m1 + p / 4294967296 = q := ⟨_, rfl⟩
  rw [hq] at bt bw hhi hlo
  obtain ⟨r, hr⟩ : ∃ r, m2 + q % 4294967296 = r := ⟨_, rfl⟩
  rw [Nat.add_comm, hr] at bw
  rw [Nat.add_comm (q % 4294967296), hr] at hhi
  rw [hr] at hlo
  have hbig : x * y / 18446744073709551616 < 18446744073709551616 := prod_small x y _ hx hy rfl
  rw [← hlo, ← hhi]
  rw [← hhi] at hbig
  have ep : ((x % 4294967296 : Nat) : Int) * ((y % 4294967296 : Nat) : Int) = (p : Int) := by rw [← Int.natCast_mul, hp]
  have em1 : ((x / 4294967296 : Nat) : Int) * ((y % 4294967296 : Nat) : Int) = (m1 : Int) := by rw [← Int.natCast_mul, hm1]
  have em2 : ((x % 4294967296 : Nat) : Int) * ((y / 4294967296 : Nat) : Int) = (m2 : Int) := by rw [← Int.natCast_mul, hm2]
  have em3 : ((x / 4294967296 : Nat) : Int) * ((y / 4294967296 : Nat) : Int) = (m3 : Int) := by rw [← Int.natCast_mul, hm3]
  clear hp hm1 hm2 hm3
  refine rumul_core x y (x % 4294967296) (x / 4294967296) (y % 4294967296) (y / 4294967296) p (p % 4294967296) (p / 4294967296) m1 q (q % 4294967296) (q / 4294967296) m2 r (r % 4294967296) (r / 4294967296) m3 _ _ w
    (by omega) (by omega) (by omega) (by omega) (by omega) (by omega) (by omega) (by omega) (by omega) (by omega) (by omega) (by omega) (by omega) (by omega) (by omega) ep (by omega) (by omega) em1 (by omega) (by omega) (by omega) em2 (by omega) (by omega) (by omega) em3 (Lib.hid (by omega)) (Lib.hid (by omega))
end Go.Proofs.Ytphbeghflbkpgaa

/- Contracts of the document's own answers for layer 1: UMul, Mul, udiv, UDiv. -/
namespace Go.Proofs.Ytphbeghflbkpgaa
open Go.RowKit

set_option maxHeartbeats 400000 in
theorem rumul_any (a b : Int) (w : World) :
    Calls Try.prog 29 #[.int .i64 a, .int .i64 b] w fun e w' => e = .returned (.tuple #[.int .i64 (umLo a b), .int .i64 (umHi a b)]) ∧ Below w.heap.size w w' := by
  have ea := un_cast a
  have eb := un_cast b
  obtain ⟨lo, hlo⟩ : ∃ k : Nat, Hid (un a * un b % 18446744073709551616 = k) := ⟨_, Lib.hid rfl⟩
  obtain ⟨hi, hhi⟩ : ∃ k : Nat, Hid (un a * un b / 18446744073709551616 = k) := ⟨_, Lib.hid rfl⟩
  have cu := fun w => rumulN_any (un a) (un b) w (un_lt a) (un_lt b)
  rw [hlo.out, hhi.out] at cu
  have CU := Lib.hid cu
  clear cu
  go_enter Try.func29, Try.ntmps29
  go_wp2_with (go_at_call 38; refine (CU.out _).mono ?_; rintro e w1 ⟨rfl, hb⟩)
  go_ret2
  exact ⟨ret_two (by rw [umLo, hlo.out]) (by rw [umHi, hhi.out]), hb⟩

end Go.Proofs.Ytphbeghflbkpgaa

/- The contract of the document's own quotient, bit by bit (udiv), and of UDiv. -/
namespace Go.Proofs.Ytphbeghflbkpgaa
open Go.RowKit

/-- How far the quotient is, bit by bit: j bits are left. -/
structure DInv (lo hi d j q r : Nat) : Prop where
  le : j ≤ 64
  eq : hi * 2 ^ (64 - j) + lo / 2 ^ j = d * q + r
  r_lt : r < d
  q_lt : q < 2 ^ (64 - j)

theorem DInv.step {lo hi d i q r : Nat} (I : DInv lo hi d (i + 1) q r) (R : Nat) (hR : 2 * r + lo / 2 ^ i % 2 = R) :
    (d ≤ R → DInv lo hi d i (2 * q + 1) (R - d)) ∧ (R < d → DInv lo hi d i (2 * q) R) := by
  have h1 := I.le
  have h2 := I.eq
  have h3 := I.r_lt
  have h4 := I.q_lt
  have e1 : 2 ^ (64 - i) = 2 * 2 ^ (64 - (i + 1)) := by
    rw [show 64 - i = (64 - (i + 1)) + 1 by omega, Nat.pow_succ, Nat.mul_comm]
  have e2 : lo / 2 ^ i = 2 * (lo / 2 ^ (i + 1)) + lo / 2 ^ i % 2 := by
    rw [Nat.pow_succ, ← Nat.div_div_eq_div_mul]; omega
  have e3 : hi * 2 ^ (64 - i) + lo / 2 ^ i = d * (2 * q) + R := by
    rw [e1, e2, Nat.mul_left_comm d 2 q, Nat.mul_left_comm hi 2]
    generalize lo / 2 ^ i % 2 = b at *
    omega
  have hb : lo / 2 ^ i % 2 < 2 := Nat.mod_lt _ (by omega)
  constructor
  · intro hd
    refine ⟨by omega, ?_, by omega, by omega⟩
    rw [e3, Nat.mul_add, Nat.mul_one]
    omega
  · intro hd
    exact ⟨by omega, e3, hd, by omega⟩

theorem DInv.first (lo hi d : Nat) (hl : lo < 18446744073709551616) (h : hi < d) : DInv lo hi d 64 0 hi := by
  refine ⟨by omega, ?_, h, by simp⟩
  have : lo / 2 ^ 64 = 0 := Nat.div_eq_of_lt (by simpa using hl)
  rw [this]
  simp

theorem DInv.last {lo hi d q r : Nat} (I : DInv lo hi d 0 q r) : (hi * 18446744073709551616 + lo) / d = q ∧ (hi * 18446744073709551616 + lo) % d = r := by
  have h2 := I.eq
  have h3 := I.r_lt
  simp only [Nat.sub_zero, Nat.pow_zero, Nat.div_one, Nat.reducePow] at h2
  rw [h2]
  exact ⟨by rw [Nat.mul_add_div (by omega), Nat.div_eq_of_lt h3, Nat.add_zero], by rw [Nat.mul_add_mod, Nat.mod_eq_of_lt h3]⟩

theorem DInv.q_small {lo hi d i q r : Nat} (I : DInv lo hi d (i + 1) q r) : q < 9223372036854775808 := by
  have h1 := I.q_lt
  have h2 : 2 ^ (64 - (i + 1)) ≤ 2 ^ 63 := Nat.pow_le_pow_right (by omega) (by omega)
  have h3 : (2 : Nat) ^ 63 = 9223372036854775808 := by decide
  omega

theorem over_wrap (r b d : Nat) (h : 9223372036854775808 ≤ r) (hd : r < d) (hd2 : d ≤ 18446744073709551615) (hb : b < 2) :
    IntKind.u64.wrap (IntKind.u64.wrap (2 * (r : Int)) + (b : Int)) = ((2 * r + b - 18446744073709551616 : Nat) : Int) ∧ IntKind.u64.wrap (((2 * r + b - 18446744073709551616 : Nat) : Int) - (d : Int)) = ((2 * r + b - d : Nat) : Int) := by
  simp only [IntKind.wrap_u64]
  omega

set_option maxRecDepth 100000 in
set_option maxHeartbeats 2000000 in
theorem rudivN_any (lo hi d : Nat) (w : World) (hl : lo ≤ 18446744073709551615) (hd : d ≤ 18446744073709551615) (h : hi < d) :
    Calls Try.prog 42 #[.int .u64 (lo : Int), .int .u64 (hi : Int), .int .u64 (d : Int)] w fun e w' => (∃ Q R : Nat, Hid ((hi * 18446744073709551616 + lo) / d = Q ∧ (hi * 18446744073709551616 + lo) % d = R) ∧ e = .returned (.tuple #[.int .u64 (Q : Int), .int .u64 (R : Int)])) ∧ w = w' := by
  have hd' : (d : Int) ≤ 18446744073709551615 := by omega
  have hl' : (lo : Int) ≤ 18446744073709551615 := by omega
  go_enter Try.func42, Try.ntmps42
  go_wp2
  go_loop [8, 9, 10, 11] (fun s t u _ => ∃ q r : Nat, s = .int .u64 (q : Int) ∧ t = .int .u64 (r : Int) ∧ ((∃ i : Nat, i ≤ 63 ∧ u = .int .i64 (i : Int) ∧ Hid (DInv lo hi d (i + 1) q r)) ∨ (u = .int .i64 (-1) ∧ Hid (DInv lo hi d 0 q r)))) (fun _ _ u _ => (intOf u + 1).toNat)
  case atStart => exact ⟨0, hi, rfl, rfl, Or.inl ⟨63, by omega, rfl, Lib.hid (DInv.first lo hi d (by omega) h)⟩⟩
  case round =>
    obtain ⟨q, r, rfl, rfl, ⟨i, hi63, rfl, I⟩ | ⟨rfl, I⟩⟩ := hrel
    · have hq : (q : Int) < 9223372036854775808 := by have := I.out.q_small; omega
      have hr : (r : Int) < (d : Int) := by have := I.out.r_lt; omega
      obtain ⟨b, hb⟩ : ∃ b : Nat, lo / 2 ^ i % 2 = b := ⟨_, rfl⟩
      have hb2 : (b : Int) < 2 := by omega
      obtain ⟨t, ht⟩ : ∃ t : Nat, lo / 2 ^ i = t := ⟨_, rfl⟩
      have et : (lo : Int) / 2 ^ i = (t : Int) := by rw [← ht]; simp
      have eb : (t : Int) % 2 = (b : Int) := by rw [ht] at hb; omega
      clear ht
      have S := I.out.step (2 * r + b) (by rw [hb])
      have HS := Lib.hid S
      have HB := Lib.hid hb
      clear S hb
      by_cases ho : 9223372036854775808 ≤ (r : Int)
      · obtain ⟨o1, o2⟩ := over_wrap r b d (by omega) (by omega) (by omega) (by omega)
        obtain ⟨r2, hr2⟩ : ∃ k : Nat, 2 * r + b - 18446744073709551616 = k := ⟨_, rfl⟩
        obtain ⟨r3, hr3⟩ : ∃ k : Nat, 2 * r + b - d = k := ⟨_, rfl⟩
        rw [hr2] at o1 o2
        rw [hr3] at o2
        have N := HS.out.1 (by omega)
        rw [hr3] at N
        have HN := Lib.hid N
        clear hr2 hr3 N
        go_wp2
        go_round
        case rel =>
          refine ⟨2 * q + 1, r3, by go_num, by go_num, ?_⟩
          by_cases hi0 : i = 0
          · subst hi0; exact Or.inr ⟨rfl, HN⟩
          · exact Or.inl ⟨i - 1, by omega, by go_num, Lib.hid (by rw [show i - 1 + 1 = i by omega]; exact HN.out)⟩
        case measure => simp [intOf]
      · by_cases hc : (d : Int) ≤ 2 * (r : Int) + (b : Int)
        · obtain ⟨r3, hr3⟩ : ∃ k : Nat, 2 * r + b - d = k := ⟨_, rfl⟩
          have N := HS.out.1 (by omega)
          rw [hr3] at N
          have HN := Lib.hid N
          have er : 2 * (r : Int) + (b : Int) - (d : Int) = (r3 : Int) := by omega
          clear hr3 N
          go_wp2
          go_round
          case rel =>
            refine ⟨2 * q + 1, r3, by go_num, by go_num, ?_⟩
            by_cases hi0 : i = 0
            · subst hi0; exact Or.inr ⟨rfl, HN⟩
            · exact Or.inl ⟨i - 1, by omega, by go_num, Lib.hid (by rw [show i - 1 + 1 = i by omega]; exact HN.out)⟩
          case measure => simp [intOf]
        · have HN := Lib.hid (HS.out.2 (by omega))
          go_wp2
          go_round
          case rel =>
            refine ⟨2 * q, 2 * r + b, by go_num, by go_num, ?_⟩
            by_cases hi0 : i = 0
            · subst hi0; exact Or.inr ⟨rfl, HN⟩
            · exact Or.inl ⟨i - 1, by omega, by go_num, Lib.hid (by rw [show i - 1 + 1 = i by omega]; exact HN.out)⟩
          case measure => simp [intOf]
    · obtain ⟨l1, l2⟩ := I.out.last
      have HL := Lib.hid (And.intro l1 l2)
      clear l1 l2
      go_wp2
      go_ret2
      exact ⟨⟨q, r, HL, rfl⟩, rfl⟩
end Go.Proofs.Ytphbeghflbkpgaa

/- Contracts of SDiv and FDiv of package cell. -/
namespace Go.Proofs.Ytphbeghflbkpgaa
open Go.RowKit

/-- What SDiv's parts are called. -/
structure PartsOf (lo hi d : Int) (pl ph D : Nat) : Prop where
  low : (pr lo hi).natAbs % 18446744073709551616 = pl
  high : (pr lo hi).natAbs / 18446744073709551616 = ph
  size : d.natAbs = D

theorem PartsOf.quo {lo hi d : Int} {pl ph D : Nat} (h : PartsOf lo hi d pl ph D) : ph * 18446744073709551616 + pl = (pr lo hi).natAbs := by
  have := pair_abs lo hi; rw [h.low, h.high] at this; exact this
theorem PartsOf.d_le {lo hi d : Int} {pl ph D : Nat} (h : PartsOf lo hi d pl ph D) (hd : cellR d) : D ≤ 9223372036854775808 := by have := h.size; unfold cellR at hd; omega

end Go.Proofs.Ytphbeghflbkpgaa

/- Contracts of the document's own answers for layer 1: UDiv, sized, SDiv, FDiv. -/
namespace Go.Proofs.Ytphbeghflbkpgaa
open Go.RowKit

theorem rudivN_ok (lo hi d Q R : Nat) (w : World) (hl : lo < 18446744073709551616) (hd : d < 18446744073709551616) (h : hi < d) (hQ : (hi * 18446744073709551616 + lo) / d = Q) (hR : (hi * 18446744073709551616 + lo) % d = R) :
    Calls Try.prog 42 #[.int .u64 (lo : Int), .int .u64 (hi : Int), .int .u64 (d : Int)] w fun e w' => e = .returned (.tuple #[.int .u64 (Q : Int), .int .u64 (R : Int)]) ∧ w = w' :=
  (rudivN_any lo hi d w (by omega) (by omega) h).mono fun e w' ⟨⟨Q', R', hid, he⟩, hw⟩ => ⟨by
    obtain ⟨h1, h2⟩ := hid.out
    rw [← hQ, ← hR, h1, h2]; exact he, hw⟩

set_option maxHeartbeats 400000 in
theorem rudiv_any (lo hi d : Int) (w : World) (hd : cellR d) :
    Calls Try.prog 36 #[.int .i64 lo, .int .i64 hi, .int .i64 d] w fun e w' => e = .returned (.tuple #[.int .i64 (uq lo hi d), .int .i64 (ur lo hi d), .int .i64 (uc hi d)]) ∧ w = w' := by
  have e1 := un_cast lo
  have e2 := un_cast hi
  have e3 := un_cast d
  by_cases h0 : d = 0
  · have e4 : un d = 0 := (un_zero hd).2 h0
    have hk : uok hi d = false := by simp [uok, e4]
    clear hd
    subst h0
    have H := Lib.hid hk
    clear e3 e4 hk
    go_enter Try.func36, Try.ntmps36
    go_wp2
    go_ret3
    exact ⟨ret_three (by simp [uq, H.out]) (by simp [ur, H.out]) (by simp [uc]), rfl⟩
  · have z0 : (d == 0) = false := by simpa using h0
    clear hd
    cases hk : uok hi d
    · have h5 := uok_false hk
      have h6 : ((un d : Nat) : Int) ≤ ((un hi : Nat) : Int) := by omega
      have H := Lib.hid hk
      clear hk
      go_enter Try.func36, Try.ntmps36
      go_wp2
      go_ret3
      exact ⟨ret_three (by simp [uq, H.out]) (by simp [ur, H.out]) (by simp [uc, h0, H.out]), rfl⟩
    · have h5 := uok_true hk
      have h6 : ¬ ((un d : Nat) : Int) ≤ ((un hi : Nat) : Int) := by omega
      have H := Lib.hid hk
      clear hk
      obtain ⟨Q, hQ⟩ : ∃ Q : Nat, Hid ((un hi * 18446744073709551616 + un lo) / un d = Q) := ⟨_, Lib.hid rfl⟩
      obtain ⟨R, hR⟩ : ∃ R : Nat, Hid ((un hi * 18446744073709551616 + un lo) % un d = R) := ⟨_, Lib.hid rfl⟩
      have CU := Lib.hid fun w => rudivN_ok (un lo) (un hi) (un d) Q R w (un_lt lo) (un_lt d) h5 hQ.out hR.out
      go_enter Try.func36, Try.ntmps36
      go_wp2_with (go_at_call 42; refine (CU.out _).mono ?_; rintro e w1 ⟨rfl, rfl⟩)
      go_ret3
      exact ⟨ret_three (by rw [uq, if_pos H.out, hQ.out]) (by rw [ur, if_pos H.out, hR.out]) (by rw [uc, if_neg h0, if_pos H.out]), rfl⟩

end Go.Proofs.Ytphbeghflbkpgaa

/- What the struct arguments of layer 3's statements hold. -/
namespace Go.Proofs.Ytphbeghflbkpgaa
open Go.ChangeShapes Go.WideShapes Go.ChangeAt Go.RowKit Go.Joins Go.Deep
set_option linter.unusedVariables false
set_option linter.unusedSimpArgs false

theorem Byt.slice {w : World} {v : Value} {l : List UInt8} (h : Byt w v l) : ∃ A n c, v = .slice A n c := by
  obtain ⟨A, c, e, _⟩ := h
  exact ⟨A, _, c, e⟩
theorem wf_i64 {n : Int} (h : (Lit.int .i64 n).wf = true) : -9223372036854775808 ≤ n ∧ n ≤ 9223372036854775807 := by
  simp only [Lit.wf, IntKind.min, IntKind.max, IntKind.signed, IntKind.bits, Bool.and_eq_true, decide_eq_true_eq] at h
  simpa using h
theorem wf_u8 {n : Int} (h : (Lit.int .u8 n).wf = true) : 0 ≤ n ∧ n ≤ 255 := by
  simp only [Lit.wf, IntKind.min, IntKind.max, IntKind.signed, IntKind.bits, Bool.and_eq_true, decide_eq_true_eq] at h
  simpa using h
theorem Byt.cap {w : World} {A : Option Addr} {n c : Nat} {l : List UInt8} (h : Byt w (.slice A n c) l) : n ≤ 9223372036854775807 := by
  obtain ⟨A', c', e, h1, h2, _⟩ := h
  injection e with _ e _
  have h3 : maxLen ≤ 9223372036854775807 := by decide
  omega
section
variable {H : Type} {enc : TypeId × Value → H} {w : World}
end
end Go.Proofs.Ytphbeghflbkpgaa

/- How texts under way lie in a world. -/
namespace Go.Proofs.Ytphbeghflbkpgaa
open Go.RowKit
set_option linter.unusedVariables false
set_option linter.unusedSimpArgs false

/-- A text under way in a block of its own. -/
abbrev PBox (w : World) (b : Nat) (A : Option Addr) (n c : Nat) (o : Bool) : Prop := Box w b (.slice A n c) (.bool o) 24
theorem pbox_new (w : World) (A : Option Addr) (n c : Nat) (o : Bool) : PBox (w.alloc (.cells #[.slice A n c, .bool o] 24)) w.heap.size A n c o := box_new _ _ _ _
theorem conv_any {w : World} {A : Option Addr} {n c : Nat} {l : List UInt8} (h : Byt w (.slice A n c) l) : (convert 22 9 (.slice A n c)).run Try.prog w = .ok (.string (strB l)) w := h.conv
theorem strB_same (a b : List UInt8) : ((strB a) = (strB b)) ↔ a = b := ⟨fun h => strB_inj h, fun h => by rw [h]⟩
theorem len_zero {l : List UInt8} (h : l.length = 0) : l = [] := List.eq_nil_of_length_eq_zero h
theorem own_new2 (w : World) (o o2 : Obj) : BOwns (((w.alloc o).alloc o2).alloc (.cells #[] 5)) (w.heap.size + 1 + 1) (.slice (some ⟨w.heap.size + 1 + 1, 0, none⟩) 0 0) 0 [] := by
  have := none_bowns ((w.alloc o).alloc o2)
  rw [World.size_alloc, World.size_alloc] at this
  exact this
theorem al_two (w : World) (o o2 : Obj) : Below w.heap.size w ((w.alloc o).alloc o2) := alloc_then (al_one w o)
/-- A text under way that is stored in a block: what is laid beside it stays. -/
theorem BOwns.pset {w : World} {base n : Nat} {v : Value} {l : List UInt8} (h : BOwns w base v n l) {b : Nat} (hb : b < base) (x y : Value) : BOwns ((w.setCell ⟨b, 0, none⟩ x).setCell ⟨b, 1, none⟩ y) base v n l :=
  ownsRow_setCell_below (ownsRow_setCell_below h (a := ⟨b, 0, none⟩) hb x) (a := ⟨b, 1, none⟩) hb y
theorem below_pset {w0 w : World} {B : Nat} (h : Below B w0 w) {b : Nat} (hb : B ≤ b) (x y : Value) : Below B w0 ((w.setCell ⟨b, 0, none⟩ x).setCell ⟨b, 1, none⟩ y) :=
  (h.setCell (p := ⟨b, 0, none⟩) hb x).setCell (p := ⟨b, 1, none⟩) hb y
theorem PBox.put {w : World} {b : Nat} {A : Option Addr} {n c : Nat} {o : Bool} (h : PBox w b A n c o) (x y : Value) : Box ((w.setCell ⟨b, 0, none⟩ x).setCell ⟨b, 1, none⟩ y) b x y 24 := Box.put h x y
theorem byt_slice {w : World} {v : Value} {l : List UInt8} (h : Byt w v l) : ∃ A n c, v = .slice A n c := by
  obtain ⟨A, c, e, _⟩ := h
  exact ⟨A, _, c, e⟩
theorem byt_low (w : World) (x : Int) : Byt (w.alloc (.cells #[.int .u8 (x % 256)] 5)) (.slice (some ⟨w.heap.size, 0, none⟩) 1 1) [byteI x] := by
  have h := byt_one w (byteI x)
  rw [byteI_nat] at h
  exact h
theorem below_own {w w1 : World} {B : Nat} (h : Below w.heap.size w w1) (hB : B ≤ w.heap.size) : Below B w w1 := h.mono hB
theorem PBox.not_u8 {w : World} {b : Nat} {A : Option Addr} {n c : Nat} {o : Bool} (h : PBox w b A n c o) (k : Nat) (x : Int) : w.cell? ⟨b, k, none⟩ ≠ some (.int .u8 x) := by
  unfold PBox Box at h
  intro e
  simp only [World.cell?, h] at e
  match k, e with
  | 0, e => simp at e
  | 1, e => simp at e
  | k + 2, e => simp at e
theorem byt_pset {w : World} {v : Value} {l : List UInt8} (h : Byt w v l) {b : Nat} {A : Option Addr} {n c : Nat} {o : Bool} (hb : PBox w b A n c o) (x y : Value) : Byt ((w.setCell ⟨b, 0, none⟩ x).setCell ⟨b, 1, none⟩ y) v l := by
  obtain ⟨A', c', h1, h2, h3, h4⟩ := h
  refine ⟨A', c', h1, h2, h3, ?_⟩
  rcases h4 with h | ⟨g, o', e, hg, hc⟩
  · exact .inl h
  · by_cases h0 : u8s l = []
    · exact .inl h0
    · have hne : g ≠ b := by
        intro e2
        subst e2
        cases l with
        | nil => exact h0 rfl
        | cons z l => exact hb.not_u8 (o' + 0) (z.toNat : Int) (hc 0 (.int .u8 (z.toNat : Int)) rfl)
      refine .inr ⟨g, o', e, by simpa [World.setCell] using hg, fun j u hu => ?_⟩
      rw [World.cell?_setCell_far _ _ _ _ (fun e => hne e.symm), World.cell?_setCell_far _ _ _ _ (fun e => hne e.symm)]
      exact hc j u hu
/-- A text under way, with its signs, in a block. -/
def PAt (b : Nat) (A : Option Addr) (n c : Nat) (o : Bool) (l : List UInt8) (w : World) : Prop := PBox w b A n c o ∧ Byt w (.slice A n c) l
theorem PAt.keep {b : Nat} {A : Option Addr} {n c : Nat} {o : Bool} {l : List UInt8} {w w' : World} (h : PAt b A n c o l w) (k : Below w.heap.size w w') : PAt b A n c o l w' := ⟨Box.keep h.1 k, h.2.keep k⟩
theorem PAt.use {b : Nat} {A : Option Addr} {n c : Nat} {o : Bool} {l : List UInt8} {w : World} (h : PAt b A n c o l w) : w.cell? ⟨b, 0, none⟩ = some (.slice A n c) ∧ w.cell? ⟨b, 1, none⟩ = some (.bool o) := ⟨(Box.use h.1).1, (Box.use h.1).2.1⟩
theorem PAt.lt {b : Nat} {A : Option Addr} {n c : Nat} {o : Bool} {l : List UInt8} {w : World} (h : PAt b A n c o l w) : b < w.heap.size := Box.lt h.1
theorem PAt.byt {b : Nat} {A : Option Addr} {n c : Nat} {o : Bool} {l : List UInt8} {w : World} (h : PAt b A n c o l w) : Byt w (.slice A n c) l := h.2
theorem pat_new {A : Option Addr} {n c : Nat} {o : Bool} {l : List UInt8} {w : World} (h : Byt w (.slice A n c) l) : PAt w.heap.size A n c o l (w.alloc (.cells #[.slice A n c, .bool o] 24)) := ⟨pbox_new w A n c o, h.keep (al_one _ _)⟩
theorem pat_set {b : Nat} {A A' : Option Addr} {n c n' c' : Nat} {o o' : Bool} {l : List UInt8} {w : World} (hx : PBox w b A n c o) (h : Byt w (.slice A' n' c') l) : PAt b A' n' c' o' l ((w.setCell ⟨b, 0, none⟩ (.slice A' n' c')).setCell ⟨b, 1, none⟩ (.bool o')) := ⟨Box.put hx _ _, byt_pset h hx _ _⟩
theorem ppack {W w : World} {b : Nat} {A A' : Option Addr} {n c n' c' : Nat} {o o' : Bool} {l : List UInt8} (hx : PBox w b A n c o) (h : Byt w (.slice A' n' c') l) (B : Below W.heap.size W w) (hb : W.heap.size ≤ b) :
    ∃ wf, (w.setCell ⟨b, 0, none⟩ (.slice A' n' c')).setCell ⟨b, 1, none⟩ (.bool o') = wf ∧ Hid (PAt b A' n' c' o' l wf) ∧ Below W.heap.size W wf := ⟨_, rfl, Lib.hid (pat_set hx h), below_pset B hb _ _⟩
theorem papack {W w : World} {A : Option Addr} {n c : Nat} {o : Bool} {l : List UInt8} (h : Byt w (.slice A n c) l) (B : Below W.heap.size W w) :
    ∃ wf, w.alloc (.cells #[.slice A n c, .bool o] 24) = wf ∧ Hid (PAt w.heap.size A n c o l wf) ∧ Below W.heap.size W wf := ⟨_, rfl, Lib.hid (pat_new h), alloc_then B⟩
theorem pbox_far {w : World} {b b' : Nat} {A : Option Addr} {n c : Nat} {o : Bool} (h : PBox w b A n c o) (hne : b ≠ b') (x y : Value) : PBox ((w.setCell ⟨b', 0, none⟩ x).setCell ⟨b', 1, none⟩ y) b A n c o := by
  unfold PBox Box at h ⊢
  rw [Below.heap_setCell _ _ _ _ hne, Below.heap_setCell _ _ _ _ hne]
  exact h
theorem conv_low (v : Int) (w : World) : (convert 22 9 (.slice (some ⟨w.heap.size, 0, none⟩) 1 1)).run Try.prog (w.alloc (.cells #[.int .u8 (v % 256)] 5)) = .ok (.string (strB [byteI v])) (w.alloc (.cells #[.int .u8 (v % 256)] 5)) := by
  have h := conv_one (byteI v) w
  rw [byteI_nat] at h
  exact h
theorem start7 {A : Option Addr} {n c : Nat} {o : Bool} {l : List UInt8} {w : World} (h : Byt w (.slice A n c) l) (x : Obj) : PAt (w.heap.size + 1) A n c o l ((w.alloc x).alloc (.cells #[.slice A n c, .bool o] 24)) := by
  have := pat_new (o := o) (h.keep (al_one w x))
  rwa [World.size_alloc] at this
theorem endC_rng (o : Bool) : -24 ≤ endC o ∧ endC o ≤ 0 := by unfold endC; split <;> omega
theorem psame_refl (o : Bool) (l : List UInt8) : pSame o l o l = true := by unfold pSame; simp
theorem holdC_rng (o : Bool) (l : List UInt8) : -24 ≤ holdC o l ∧ holdC o l ≤ 0 := by unfold holdC; split <;> omega
theorem digC_rng (o : Bool) (l : List UInt8) (b : Int) : -24 ≤ digC o l b ∧ digC o l b ≤ 0 := by unfold digC; have := holdC_rng o l; split <;> omega
theorem allC_rng (o : Bool) (l : List UInt8) (lo hi b : Int) : -24 ≤ allC o l lo hi b ∧ allC o l lo hi b ≤ 0 := by
  unfold allC
  split
  · split <;> omega
  · omega
theorem signC_rng (o : Bool) (l : List UInt8) (n : Int) : -24 ≤ signC o l n ∧ signC o l n ≤ 0 := by unfold signC; have := holdC_rng o l; split <;> omega
theorem start77 {A A' : Option Addr} {n c n' c' : Nat} {o o' : Bool} {l l' : List UInt8} {w : World} (h : Byt w (.slice A n c) l) (h' : Byt w (.slice A' n' c') l') :
    PAt w.heap.size A n c o l ((w.alloc (.cells #[.slice A n c, .bool o] 24)).alloc (.cells #[.slice A' n' c', .bool o'] 24)) ∧ PAt (w.heap.size + 1) A' n' c' o' l' ((w.alloc (.cells #[.slice A n c, .bool o] 24)).alloc (.cells #[.slice A' n' c', .bool o'] 24)) :=
  ⟨(pat_new h).keep (al_one _ _), start7 h' _⟩
end Go.Proofs.Ytphbeghflbkpgaa

/- Contracts of the document's Begin, Right, Same, Hold, Sign. -/
namespace Go.Proofs.Ytphbeghflbkpgaa
open Go.RowKit
set_option linter.unusedVariables false
set_option linter.unusedSimpArgs false

set_option maxRecDepth 100000 in
theorem rbegin_any (w : World) : Calls Try.prog 15 #[] w fun e w' => e = .returned (.agg #[.slice none 0 0, .bool true]) ∧ Below w.heap.size w w' := by
  go_enter Try.func15, Try.ntmps15
  go_wp2
  refine bodyPost_ret (v := .agg #[.slice none 0 0, .bool true]) ?_ rfl ?_
  · obtain ⟨r0, r1, _, _⟩ := (pbox_new w none 0 0 true).use
    simp [results, Try.results15, go_sem, r0, r1]
  · exact ⟨rfl, al_one _ _⟩

set_option maxRecDepth 100000 in
theorem rright_any (A : Option Addr) (n c : Nat) (o : Bool) (l : List UInt8) (w : World) (h : Byt w (.slice A n c) l) :
    Calls Try.prog 10 #[.agg #[.slice A n c, .bool o]] w fun e w' => e = .returned (.bool (pRight o l)) ∧ Below w.heap.size w w' := by
  have hl := h.len
  by_cases h1 : n ≤ 130
  · have h1' : (n : Int) ≤ 130 := by omega
    cases o with
    | true =>
      have H : Hid (pRight true l = true) := (pRight_iff _ _).2 ⟨by omega, .inl rfl⟩
      rw [H.out]
      clear h hl
      go_enter Try.func10, Try.ntmps10
      go_wp2
      go_ret
      exact ⟨rfl, al_one _ _⟩
    | false =>
      by_cases h0 : n = 0
      · have H : Hid (pRight false l = true) := (pRight_iff _ _).2 ⟨by omega, .inr (len_zero (by omega))⟩
        rw [H.out]
        clear h hl
        subst h0
        go_enter Try.func10, Try.ntmps10
        go_wp2
        go_ret
        exact ⟨rfl, al_one _ _⟩
      · have H : Hid (pRight false l = false) := (pRight_no _ _).2 (by rintro ⟨_, h | h⟩; cases h; rw [h] at hl; exact h0 hl.symm)
        rw [H.out]
        have h0' : ((n : Int) == 0) = false := by simp; omega
        clear h hl
        go_enter Try.func10, Try.ntmps10
        go_wp2
        go_ret
        exact ⟨rfl, al_one _ _⟩
  · have H : Hid (pRight o l = false) := (pRight_no _ _).2 (by omega)
    have h1' : decide ((n : Int) ≤ 130) = false := by simp; omega
    rw [H.out]
    clear h hl h1
    go_enter Try.func10, Try.ntmps10
    go_wp2
    go_ret
    exact ⟨rfl, al_one _ _⟩

set_option maxRecDepth 100000 in
theorem rsame_any (A A' : Option Addr) (n c n' c' : Nat) (o o' : Bool) (l l' : List UInt8) (w : World) (h : Byt w (.slice A n c) l) (h' : Byt w (.slice A' n' c') l') :
    Calls Try.prog 13 #[.agg #[.slice A n c, .bool o], .agg #[.slice A' n' c', .bool o']] w fun e w' => e = .returned (.bool (pSame o l o' l')) ∧ Below w.heap.size w w' := by
  by_cases ho : o = o'
  · subst ho
    have k1 := (al_one w (.cells #[.slice A n c, .bool o] 24)).trans ((al_one _ (.cells #[.slice A' n' c', .bool o] 24)).mono (by simp))
    have c1 := (h.keep k1).conv
    have c2 := (h'.keep k1).conv
    have K := Lib.hid k1
    have hb : PBox _ _ _ _ _ _ ∧ PBox _ _ _ _ _ _ := box_two w (.slice A n c) (.bool o) (.slice A' n' c') (.bool o) 24 24
    obtain ⟨b1, b2, _, _⟩ := hb.1.use
    obtain ⟨b3, b4, _, _⟩ := hb.2.use
    by_cases hs : l = l'
    · have H : Hid (pSame o l o l' = true) := by show _ = _; unfold pSame; simp [hs]
      rw [H.out]
      subst hs
      clear h h' k1 hb
      go_enter Try.func13, Try.ntmps13
      go_wp2
      go_ret
      exact ⟨rfl, K.out⟩
    · have H : Hid (pSame o l o l' = false) := by show _ = _; unfold pSame; simp [hs]
      rw [H.out]
      have hs' := str_ne (a := strB l) (b := strB l') (fun e => hs (strB_inj e))
      clear h h' k1 hb hs
      go_enter Try.func13, Try.ntmps13
      go_wp2
      go_ret
      exact ⟨rfl, K.out⟩
  · have H : Hid (pSame o l o' l' = false) := by show _ = _; unfold pSame; simp [ho]
    rw [H.out]
    have ho' : (o == o') = false := by simpa using ho
    clear h h' ho
    go_enter Try.func13, Try.ntmps13
    go_wp2
    go_ret
    exact ⟨rfl, (al_one w (.cells #[.slice A n c, .bool o] 24)).trans ((al_one _ (.cells #[.slice A' n' c', .bool o'] 24)).mono (by simp))⟩
end Go.Proofs.Ytphbeghflbkpgaa
