/- The map of texts: how it is made, and what it answers; what a text makes of a stack. -/
import Derived.Test.YtjeapcpicagobaaStkC
import Derived.ChangeMaps5
import Derived.MapKept
import Derived.Lib.OthersKept
import Derived.Carry
namespace Go.Proofs.Ytjeapcpicagobaa
open Go.RowKit Go.ChangeMaps
set_option linter.unusedVariables false
set_option linter.unusedSimpArgs false

theorem run_insert {w : World} {b : Nat} {es : Array MapEntry} {clock : Nat} (hb : w.heap[b]? = some (.map es clock)) (k v : ByteArray) (hn : Instr.findNow .string (.string k) es.toList 0 = some none) :
    ∃ w', (Instr.mapUpdate 57 (.map (some b)) (.string k) (.string v)).run Try.prog w = .ok () w' ∧ w'.heap[b]? = some (.map (es.push ⟨.string k, .string v, clock⟩) (clock + 1)) ∧ w.grownBy w' (some b) := by
  refine ⟨setBlock w b (.map (es.push ⟨.string k, .string v, clock⟩) (clock + 1)), ?_, heap_setBlock_same hb _, ⟨rfl, rfl, rfl, by simp [setBlock], fun i _ hi => heap_setBlock_other hb _ (fun e => hi (by rw [e]))⟩⟩
  have hc : (Instr.checkKey false 10000 9 (.string k)).run Try.prog w = .ok () w := MapKept.run_checkKey (n := 9999) Try.underlying9 (by simp [MapKept.IsKey]) false
  have hf := MapKept.run_findKey (P := Try.prog) (w := w) Try.underlying9 hn
  simp [Instr.mapUpdate, run_underlying Try.underlying57, MapKept.run_getObj_map hb, hc, hf, MapKept.run_setObj_map _ hb, Result.andThen, setBlock]

theorem run_look {w : World} {b : Nat} {es : Array MapEntry} {clock : Nat} (hb : w.heap[b]? = some (.map es clock)) (k : ByteArray) {r : Option (Nat × Value)} (hn : Instr.findNow .string (.string k) es.toList 0 = some r) :
    (Instr.lookup 57 (.map (some b)) (.string k) true).run Try.prog w = .ok (match r with | some (_, v) => .tuple #[v, .bool true] | none => .tuple #[.string ByteArray.empty, .bool false]) w := by
  have hc : ∀ e : Bool, (Instr.checkKey e 10000 9 (.string k)).run Try.prog w = .ok () w := fun e => MapKept.run_checkKey (n := 9999) Try.underlying9 (by simp [MapKept.IsKey]) e
  have hf := MapKept.run_findKey (P := Try.prog) (w := w) Try.underlying9 hn
  have hz : (zeroValue 9).run Try.prog w = .ok (.string ByteArray.empty) w := by kernel_rfl
  cases r with
  | none => simp [Instr.lookup, run_underlying Try.underlying57, MapKept.run_getObj_map hb, hc, hf, hz, Result.andThen]
  | some x => simp [Instr.lookup, run_underlying Try.underlying57, MapKept.run_getObj_map hb, hc, hf, hz, Result.andThen]

theorem wpList_insert {ops : Array Oper} {rest : List Oper} {o : Oper} {a : Act} {Q : Exit → Act → World → Prop} {w : World} (hg : o.guard = none) (m x v : Operand) (hop : o.op = Op.insert 57 m x v)
    (b : Nat) (es : Array MapEntry) (clock : Nat) (k u : ByteArray) (hm : a.eval m = .map (some b)) (hx : a.eval x = .string k) (hv : a.eval v = .string u) (hb : w.heap[b]? = some (.map es clock)) (hn : Instr.findNow .string (.string k) es.toList 0 = some none)
    (hK : ∀ w', w'.heap[b]? = some (.map (es.push ⟨.string k, .string u, clock⟩) (clock + 1)) → w.grownBy w' (some b) → wpList Try.prog ops Q rest (a.put o.dst undef) w') :
    wpList Try.prog ops Q (o :: rest) a w := by
  refine wpList_plain hg fun K' hK' => ?_
  obtain ⟨w', hrun, r1, r2⟩ := run_insert hb k u hn
  unfold Oper.wp
  simp [execOp, hop, hm, hx, hv, hrun, Result.andThen]
  exact hK' _ _ (hK w' r1 r2)

/-- The texts. -/
def textsT : List (ByteArray × ByteArray) := [(⟨#[68, 85, 80]⟩, ⟨#[97, 32, 97, 97]⟩), (⟨#[68, 82, 79, 80]⟩, ⟨#[97, 32]⟩), (⟨#[83, 87, 65, 80]⟩, ⟨#[97, 98, 32, 98, 97]⟩), (⟨#[79, 86, 69, 82]⟩, ⟨#[97, 98, 32, 97, 98, 97]⟩), (⟨#[78, 73, 80]⟩, ⟨#[97, 98, 32, 98]⟩), (⟨#[84, 85, 67, 75]⟩, ⟨#[97, 98, 32, 98, 97, 98]⟩), (⟨#[82, 79, 84]⟩, ⟨#[97, 98, 99, 32, 98, 99, 97]⟩), (⟨#[45, 82, 79, 84]⟩, ⟨#[97, 98, 99, 32, 99, 97, 98]⟩), (⟨#[50, 68, 85, 80]⟩, ⟨#[97, 98, 32, 97, 98, 97, 98]⟩), (⟨#[50, 68, 82, 79, 80]⟩, ⟨#[97, 98, 32]⟩), (⟨#[50, 83, 87, 65, 80]⟩, ⟨#[97, 98, 99, 100, 32, 99, 100, 97, 98]⟩), (⟨#[50, 79, 86, 69, 82]⟩, ⟨#[97, 98, 99, 100, 32, 97, 98, 99, 100, 97, 98]⟩)]
def textsE : Array MapEntry := (textsT.zipIdx.map fun p => (⟨.string p.1.1, .string p.1.2, p.2⟩ : MapEntry)).toArray

set_option maxRecDepth 100000 in
set_option maxHeartbeats 4000000 in
theorem texts_any (w : World) :
    Calls Try.prog 23 #[] w fun e w' => e = .returned (.map (some w.heap.size)) ∧ w'.heap[w.heap.size]? = some (.map textsE 12) ∧ Below w.heap.size w w' := by
  have hmm := @run_makeMap Try.prog
  have HM : Hid ((w.alloc (.map #[] 0)).heap[w.heap.size]? = some (.map #[] 0)) := heap_alloc_new w _
  have HB : Hid (Below w.heap.size w (w.alloc (.map #[] 0))) := Lib.hid (below_one _ _)
  go_enter Try.func23, Try.ntmps23
  go_wp2_with (refine wpList_insert rfl _ _ _ rfl _ _ _ _ _ rfl rfl rfl HM.out (by kernel_rfl) ?_; intro w1 hm hg; have HM1 := Lib.hid hm; have HB1 := Lib.hid (HB.out.grown hg HB.out.size (fun k hk => by cases hk; exact Nat.le_refl _)); clear HM HB hm hg; have HM := HM1; have HB := HB1; clear HM1 HB1)
  go_ret
  exact ⟨rfl, HM.out, HB.out⟩

/-- A text's letters: it takes k cells and leaves those of idx. -/
structure Tells (t a b : ByteArray) (k : Nat) (idx : List Nat) : Prop where
  cuts : ∃ i, Cuts t a b i
  takes : a.size = k
  leaves : b.size = idx.length
  few : idx.length ≤ 10
  sign : ∀ (j : Nat) (h : j < b.size) (i : Nat), idx[j]? = some i → (b[j]'h).toNat = i + 97
  most : ∀ (j i : Nat), idx[j]? = some i → i < k
  four : k ≤ 4

/-- What is left of a stack's top cells. -/
def leftL (l : List Int) (low : Nat) (idx : List Nat) : List Int := l.take low ++ idx.map fun i => l.getD (low + i) 0
theorem leftL_step {l : List Int} {low j i : Nat} {idx : List Nat} (h : idx[j]? = some i) : leftL l low (idx.take (j + 1)) = leftL l low (idx.take j) ++ [l.getD (low + i) 0] := by
  unfold leftL
  have hj := (List.getElem?_eq_some_iff.1 h)
  rw [List.take_succ_eq_append_getElem hj.1, List.map_append, ← List.append_assoc, hj.2]
  rfl

theorem Owns.other {w w' : World} {base n : Nat} {v : Value} {l : List Int} (h : Owns w base v n l) (hk : ∀ g, v.ownBlock = some g → w'.heap[g]? = w.heap[g]?) : Owns w' base v n l := by
  refine ⟨h.1, ?_⟩
  rcases h.2 with h | ⟨g, cap, cur, rfl, hb, hg, hr⟩
  · exact .inl h
  · exact .inr ⟨g, cap, cur, rfl, hb, (hk g rfl).trans hg, hr⟩
theorem Owns.noIter {w : World} {base n q p : Nat} {v : Value} {l : List Int} {s : ByteArray} (h : Owns w base v n l) (hq : w.heap[q]? = some (.stringIter s p)) : v.ownBlock ≠ some q := by
  rcases h.2 with ⟨rfl, _⟩ | ⟨g, cap, cur, rfl, hb, hg, hr⟩
  · simp [Value.ownBlock]
  · intro e
    injection e with e
    simp at e
    rw [e, hq] at hg
    cases hg

theorem wpList_app_g {ops : Array Oper} {rest : List Oper} {o : Oper} {a : Act} {Q : Exit → Act → World → Prop} {w : World} (hgd : o.guard = none) (s x : Operand)
    (ho : o.op = .call { callee := .builtin .append, args := #[s, x], argTypes := #[22, 22] })
    (base : Nat) (v : Value) (n : Nat) (xs : List Int) (hs : a.eval s = v) (hown : Owns w base v n xs)
    (A : Option Addr) (m c : Nat) (ys : List Int) (hx : a.eval x = .slice A m c) (hr : Row w A m c ys) (h63 : n + m ≤ 1000000) (hbase : base ≤ w.heap.size)
    (h : ∀ v' w', Owns w' base v' (n + m) (xs ++ ys) → w.grownBy w' v.ownBlock → wpList Try.prog ops Q rest (a.put o.dst v') w') : wpList Try.prog ops Q (o :: rest) a w := by
  refine wpList_plain hgd fun _ hK => ?_
  obtain ⟨v', w', hr, h2, h3⟩ := run_app o.type hown hr h63 hbase
  unfold Oper.wp execOp
  simp only [ho, resolve, invoke, builtin, Sem.run_bind, Sem.run_pure, Result.andThen_ok, List.map_toArray, List.map_cons, List.map_nil, hs, hx, hr]
  exact hK _ _ (h v' w' h2 h3)

set_option maxRecDepth 100000 in
set_option maxHeartbeats 4000000 in
theorem told_under (A : Option Addr) (n c k : Nat) (idx : List Nat) (t a b : ByteArray) (w : World) (hn : n ≤ 65536) (hk : n < k) (HT : Hid (Tells t a b k idx)) :
    Calls Try.prog 24 #[.string t, .slice A n c] w fun e w' => e = .returned (.tuple #[.slice none 0 0, .int .i64 (-4)]) ∧ Below w.heap.size w w' := by
  obtain ⟨i, hi⟩ := HT.out.cuts
  have HC := Lib.hid hi
  have ha : a.size = k := HT.out.takes
  have h4 := HT.out.four
  have h5 : (n : Int) - (k : Int) < 0 := by omega
  have h6 : (n : Int) < (k : Int) := by omega
  clear hi
  go_enter Try.func24, Try.ntmps24
  go_wp2_with (go_at_call 28; ((with_reducible refine (cut_any t a b i _ HC).mono ?_); rintro e w1 ⟨rfl, bb⟩))
  go_ret2
  exact ⟨rfl, bb⟩

set_option maxRecDepth 100000 in
set_option maxHeartbeats 8000000 in
theorem told_ok (A : Option Addr) (low c k : Nat) (l : List Int) (idx : List Nat) (t a b : ByteArray) (w : World) (hn : low + k ≤ 65536) (hk0 : 0 < k) (HT : Hid (Tells t a b k idx)) (HR : Hid (Row w A (low + k) c l)) :
    Calls Try.prog 24 #[.string t, .slice A (low + k) c] w fun e w' => ∃ B d, e = .returned (.tuple #[.slice B (low + idx.length) d, .int .i64 0]) ∧ Row w' B (low + idx.length) d (leftL l low idx) ∧ Below w.heap.size w w' := by
  obtain ⟨i, hi⟩ := HT.out.cuts
  have HC := Lib.hid hi
  have ha : a.size = k := HT.out.takes
  have h4 := HT.out.four
  have hlc : (low : Int) ≤ (c : Int) := by have := HR.out.2.1; omega
  have hcm : (c : Int) ≤ 9223372036854775807 := by have := HR.out.2.2.1; unfold maxLen at this; omega
  have HB : Hid (b.size = idx.length) := HT.out.leaves
  have HF := HT.out.few
  have HH := Lib.hid (HR.out.high (k := low) (by omega))
  obtain ⟨g, o, rfl, hg, hce⟩ := HR.out.cells (by omega)
  have HCE := Lib.hid hce
  clear hi hce
  go_enter Try.func24, Try.ntmps24
  go_wp2_with (go_at_call 28; ((with_reducible refine (cut_any t a b i _ HC).mono ?_); rintro e w1 ⟨rfl, bb⟩))
  have B1 := Lib.hid bb
  clear bb
  go_wp2_with fail
  refine (own_any _ _ _ (l.take low) _ (by omega) (Lib.hid (HH.out.keep B1.out))).mono ?_
  rintro e w2 ⟨g2, rfl, ho, b2⟩
  have B2 := Lib.hid (below_then B1.out b2)
  have HO : Hid (Owns w2 w.heap.size (.slice (some ⟨g2, 0, none⟩) low low) low (l.take low)) := by
    have hs := B1.out.size
    refine ⟨ho.1, ?_⟩
    rcases ho.2 with h | ⟨g3, cap, cur, e, hb, hr⟩
    · exact .inl h
    · exact .inr ⟨g3, cap, cur, e, by omega, hr⟩
  clear ho b2
  go_wp2_with fail
  go_loopw [10] (fun s0 wr => ∃ (j : Nat) (v : Value), v = s0 ∧ j ≤ idx.length ∧ Hid (Owns wr w.heap.size v (low + j) (leftL l low (idx.take j))) ∧ Hid (wr.heap[w2.heap.size]? = some (.stringIter b j)) ∧ Hid (Below w.heap.size w wr)) (fun _ wr => idx.length - wr.iterPos w2.heap.size)
  case atStart =>
    refine ⟨0, _, rfl, by omega, Lib.hid ?_, Lib.hid (World.iter_heap w2 b 0), Lib.hid (below_then B2.out (below_one _ _))⟩
    have : leftL l low (idx.take 0) = l.take low := by simp [leftL]
    rw [this, Nat.add_zero]
    exact HO.out.alloc _
  case round =>
    obtain ⟨j, v, hv0, hj, HW, HI, HD⟩ := hrel
    subst hv0
    have hq := HI.out
    have hsz : w2.heap.size < wr.heap.size := (Array.getElem?_eq_some_iff.1 hq).1
    by_cases hlt : j < idx.length
    · have hb : j < b.size := by rw [HB.out]; exact hlt
      obtain ⟨ix, hix⟩ : ∃ ix, idx[j]? = some ix := ⟨_, List.getElem?_eq_getElem hlt⟩
      have hsg := HT.out.sign j hb ix hix
      have hik := HT.out.most j ix hix
      have hnx : ∀ ty, (Instr.next (.pointer (some ⟨w2.heap.size, 0, none⟩)) true ty).run Try.prog wr = .ok (.tuple #[.bool true, .int .i64 j, .int .i32 ((ix : Int) + 97)]) (wr.iterAt w2.heap.size b (j + 1)) := fun ty => by
        rw [Lib.run_next_ascii_at wr w2.heap.size b j ty hq hb (by omega), hsg]
        rfl
      have HX := Lib.hid hix
      have hs1 : (wr.iterAt w2.heap.size b (j + 1)).heap.size = wr.heap.size := Lib.iterAt_size _ _ _ _
      have hD1 : Below w.heap.size w (wr.iterAt w2.heap.size b (j + 1)) := Lib.below_iterAt HD.out B2.out.size b (j + 1)
      have hne := HW.out.noIter hq
      have HW1 : Hid (Owns (wr.iterAt w2.heap.size b (j + 1)) w.heap.size v (low + j) (leftL l low (idx.take j))) := HW.out.other (fun g hg => Lib.iterAt_other _ _ _ _ _ (fun e => hne (by rw [hg, e])))
      have hI1 := Lib.iterAt_heap wr w2.heap.size b j (j + 1) hq
      obtain ⟨y, hy⟩ : ∃ y, l.getD (low + ix) 0 = y := ⟨_, rfl⟩
      have HY := Lib.hid hy
      obtain ⟨W, hW⟩ : ∃ W, wr.iterAt w2.heap.size b (j + 1) = W := ⟨_, rfl⟩
      rw [hW] at hnx hs1 hD1 HW1 hI1
      have hc : W.cell? ⟨g, o + (low + ix), none⟩ = some (.int .i64 y) := by
        rw [← hy]
        exact (hD1.cell (p := ⟨g, o + (low + ix), none⟩) hg).trans (HCE.out (low + ix) (by omega))
      have HI1 := Lib.hid hI1
      have HD1 := Lib.hid hD1
      have HS1 := Lib.hid hs1
      have HNE := Lib.hid hne
      have i0 : (low : Int) + (ix : Int) < (low : Int) + (k : Int) := by omega
      have i1 : (0 : Int) ≤ (low : Int) + (ix : Int) := by omega
      have i2 : ((low : Int) + (ix : Int)).toNat = low + ix := by omega
      clear hsg hix hne hI1 hy hW hq hD1 hs1
      go_wp2_with (at_builtin; (refine wpList_app_g rfl _ _ rfl w.heap.size v (low + j) _ rfl (HW1.out.alloc _) (some ⟨W.heap.size, 0, none⟩) 1 1 [y] rfl (one_row W y) (by omega) (by have := HD1.out.size; simp; omega) ?_; intro v2 w3 ho hgr; have HO2 := Lib.hid ho; have HG2 := Lib.hid hgr; clear ho hgr))
      go_roundw
      case rel =>
        have ha1 : W.heap.size ≤ (W.alloc (.cells #[.int .i64 y] 3)).heap.size := by simp
        refine ⟨j + 1, _, rfl, by omega, Lib.hid ?_, Lib.hid ?_, Lib.hid ?_⟩
        · rw [leftL_step HX.out, HY.out, ← Nat.add_assoc]; exact HO2.out
        · rw [HG2.out.block _ (by have := HS1.out; simp; omega) (fun e => HNE.out e.symm)]
          exact (below_one W _).block _ (by have := HS1.out; omega) |>.trans HI1.out
        · exact app_below (HW1.out.alloc _) (below_then HD1.out (below_one _ _)) HG2.out (Nat.le_refl _)
      case measure =>
        have e1 : w3.heap[w2.heap.size]? = some (.stringIter b (j + 1)) := by
          rw [HG2.out.block _ (by have := HS1.out; simp; omega) (fun e => HNE.out e.symm)]
          exact (below_one W _).block _ (by have := HS1.out; omega) |>.trans HI1.out
        simp only [World.iterPos, e1, HI.out]
        omega
    · have hje : j = idx.length := by omega
      have hnx : ∀ ty, (Instr.next (.pointer (some ⟨w2.heap.size, 0, none⟩)) true ty).run Try.prog wr = .ok (.tuple #[.bool false]) wr := fun ty => Lib.run_next_end_at wr w2.heap.size b j ty hq (by rw [HB.out]; omega)
      have HJ := Lib.hid hje
      obtain ⟨B, d, rfl, hr⟩ := HW.out.row
      have HR2 := Lib.hid hr
      clear hje hq hr hlt
      go_wp2
      go_ret2
      have z := HJ.out
      subst z
      have e := HR2.out
      rw [List.take_length] at e
      exact ⟨_, _, rfl, e, HD.out⟩
end Go.Proofs.Ytjeapcpicagobaa
