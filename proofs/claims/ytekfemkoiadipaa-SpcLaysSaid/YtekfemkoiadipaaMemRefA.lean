/- The document's own Text: bytes that are appended one by one. -/
import Derived.Test.YtekfemkoiadipaaMemWalksE
import Derived.Maps.AppendAt
namespace Go.Proofs.Ytekfemkoiadipaa
open Go.RowKit

/-- append from a source that may be nil. -/
theorem wpList_append_lies {P : Program} {w : World} {ops : Array Oper} {rest : List Oper} {o : Oper} {a : Act} {Q : Exit → Act → World → Prop} (hgd : o.guard = none) (s x : Operand) (t : TypeId)
    (ho : o.op = .call { callee := .builtin .append, args := #[s, x], argTypes := #[t, t] })
    (base : Nat) (e : TypeId) (i : TypeInfo) (z : Value) (size bytes : Nat) (ht : P.underlying t = some (.slice e)) (hi : P.info? e = some i) (hz : i.zero = some z)
    (hsize : i.size = size) (hby : i.bytes = bytes) (hzs : z.cells.size = size) (hsz : 0 < size)
    (v : Value) (n : Nat) (xs : List Value) (hs : a.eval s = v) (hown : w.ownsRow base e size v n xs)
    (A : Option Addr) (m c : Nat) (news : List Value) (hx : a.eval x = .slice A m c) (hl : news.length = m * size) (hn : Lies w A news) (h1 : ∀ u ∈ news, u.oneCell' = true)
    (h63 : n + m ≤ maxLen) (hbytes : (n + m) * bytes ≤ 140737488355328) (hbase : base ≤ w.heap.size)
    (h : ∀ v' w', w'.ownsRow base e size v' (n + m) (xs ++ news) → w.grownBy w' v.ownBlock → wpList P ops Q rest (a.put o.dst v') w') : wpList P ops Q (o :: rest) a w := by
  cases A with
  | some ad =>
    refine wpList_append_own w hgd s x t ho base e i z size bytes ht hi hz hsize hby hzs hsz v n xs hs hown ad m c news hx hl ?_ h1 h63 hbytes hbase fun v' w' h2 h3 _ => h v' w' h2 h3
    intro j u hu
    rcases hn with rfl | ⟨g, o', e', _, hc⟩
    · simp at hu
    · injection e' with e'
      rw [e', add_at]
      exact hc j u hu
  | none =>
    have hnil : news = [] := by
      rcases hn with h | ⟨_, _, h, _⟩
      · exact h
      · cases h
    subst hnil
    have hm : m = 0 := by
      rcases Nat.mul_eq_zero.1 hl.symm with h | h
      · exact h
      · omega
    subst hm
    refine wpList_plain hgd fun K hK => ?_
    have hrun : (Builtin.append_ #[t, t] o.type #[v, .slice none 0 c]).run P w = .ok v w := by
      rcases hown.2 with ⟨rfl, rfl⟩ | ⟨g, cap, cur, rfl, _, _, hnc, _⟩
      · simp [Builtin.append_, run_underlying ht, sizeOf, typeInfo, hi, Builtin.lenOf, Builtin.firstCells]
      · simp [Builtin.append_, run_underlying ht, sizeOf, typeInfo, hi, Builtin.lenOf, Builtin.firstCells, hnc, storeCells]
    unfold Oper.wp
    simp [execOp, ho, resolve, invoke, builtin, hs, hx, hrun, Result.andThen]
    exact hK _ _ (h v w (by simpa using hown) (World.grownBy.refl w _))

theorem own_byt {w : World} {base n : Nat} {v : Value} {l : List UInt8} (h : w.ownsRow base 5 1 v n (u8s l)) : Byt w v l := by
  have hl := h.1
  rw [u8s_len, Nat.mul_one] at hl
  subst hl
  rcases h.2 with ⟨rfl, h0⟩ | ⟨g, cap, cur, rfl, _, hg, hnc, hcm, _, ht⟩
  · have : l = [] := List.eq_nil_of_length_eq_zero h0
    subst this
    exact byt_nil w
  · refine ⟨some ⟨g, 0, none⟩, cap, rfl, hnc, hcm, .inr ⟨g, 0, rfl, (Array.getElem?_eq_some_iff.1 hg).1, fun j x hx => ?_⟩⟩
    rw [← ht, List.getElem?_take] at hx
    split at hx
    · rw [Nat.zero_add]
      simp [World.cell?, hg]
      simpa using hx
    · cases hx
theorem own_from {w : World} {base e size n : Nat} {v : Value} {xs : List Value} (h : w.ownsRow base e size v n xs) : ∀ k, v.ownBlock = some k → base ≤ k := fun k hk => (h.lt k hk).1

set_option maxRecDepth 100000 in
set_option maxHeartbeats 2000000 in
theorem rtext_at (A P : Option Addr) (L c K d : Nat) (m : PM) (p n : Int) (w : World) (HM : Hid (IsMem w (.agg #[.slice A L c, .slice P K d]) m)) (hL : L ≤ 65536) (hn : n ≤ 9223372036854775807) :
    Calls Try.prog 36 #[.agg #[.slice A L c, .slice P K d], .int .i64 p, .int .i64 n] w fun e w' => ∃ B k e', e = .returned (.tuple #[.slice B k e', .int .i64 (codeF (okB L p n))]) ∧ Byt w' (.slice B k e') (textF m p n) ∧ Below w.heap.size w w' := by
  cases ok : okB L p n with
  | false =>
    have H : Hid (textF m p n = []) := textF_no (by rw [HM.out.len1]; exact ok)
    rw [codeF_no]
    go_enter Try.func36, Try.ntmps36
    go_wp2_with (go_at_call 31; (with_reducible refine (rthere_any _ _ _ _ _ _ _ _ _ (by omega) hn).mono ?_); rintro e w1 ⟨rfl, b1⟩)
    go_ret2
    exact ⟨_, _, _, rfl, by rw [H.out]; exact byt_nil _, box_below b1⟩
  | true =>
    have hok := (okB_iff _ _ _).1 ok
    have ok' : okB m.1.length p n = true := by rw [HM.out.len1]; exact ok
    have HL : Hid ((textF m p n).length = n.toNat) := textF_len ok'
    have HT := Lib.hid (textF_yes ok')
    obtain ⟨T, hT⟩ : ∃ T, T = textF m p n := ⟨_, rfl⟩
    rw [← hT] at HL HT ⊢
    obtain ⟨k, rfl⟩ := Int.eq_ofNat_of_zero_le (by omega : 0 ≤ n)
    have hk : k ≤ L := by omega
    obtain ⟨i0, hi, hz0, hz1, hz2⟩ := info_parts info_u8
    rw [codeF_yes]
    clear hT ok'
    go_enter Try.func36, Try.ntmps36
    go_wp2_with fail
    refine (rthere_any _ _ _ _ _ _ _ _ _ (by omega) hn).mono ?_
    rw [ok]
    rintro e w1 ⟨rfl, b1⟩
    have K0 := Lib.hid ((box_new w (.slice A L c) (.slice P K d) 25).keep b1)
    have HB := Lib.hid (box_below b1)
    have HM1 := Lib.hid (HM.out.keep HB.out)
    clear b1
    go_wp2_with fail
    go_loopw [9, 10] (fun v i wr => ∃ j : Nat, j ≤ k ∧ i = .int .i64 (j : Int) ∧ wr.ownsRow w1.heap.size 5 1 v j (u8s (T.take j)) ∧ Below w1.heap.size w1 wr) (fun _ i _ => k - (intOf i).toNat)
    case atStart => exact ⟨0, Nat.zero_le _, rfl, by simpa [u8s] using World.ownsRow_nil _ _ _ _, Below.refl _ _⟩
    case round =>
      obtain ⟨j, hj, rfl, hown, hb⟩ := hrel
      by_cases hlt : j < k
      · have h2 := (hok.resolve_left (by omega))
        obtain ⟨q, rfl⟩ := Int.eq_ofNat_of_zero_le h2.2.1
        have hqj : q + j < L := by omega
        obtain ⟨g, o, rfl, hg, hc, hLc⟩ := mem_cell HM1.out hqj
        obtain ⟨x, hx⟩ : ∃ x : UInt8, x = m.1.getD (q + j) 0 := ⟨_, rfl⟩
        rw [← hx] at hc
        have HX : Hid (T.take (j + 1) = T.take j ++ [x]) := by
          have hl : j < T.length := by rw [HL.out]; omega
          rw [List.take_succ_eq_append_getElem hl]
          congr 2
          have e2 : T[j]? = some T[j] := List.getElem?_eq_getElem hl
          rw [hx]
          have hlm : m.1.length = L := HM.out.len1
          have e3 : T[j]? = m.1[q + j]? := by
            rw [HT.out, List.getElem?_take, if_pos (by omega), List.getElem?_drop]
            simp
          rw [e2, List.getElem?_eq_getElem (by omega)] at e3
          injection e3 with e3
          rw [e3]
          simp [List.getD, List.getElem?_eq_getElem (by omega : q + j < m.1.length)]
        obtain ⟨k0, k1, _, _⟩ := (K0.out.keep hb).use
        have hc1 : wr.cell? ⟨g, o + (q + j), none⟩ = some (.int .u8 (x.toNat : Int)) := (hb.cell (p := ⟨g, o + (q + j), none⟩) hg).trans hc
        clear hx hc h2 hok ok
        go_wp2_with (at_builtin; refine wpList_append_own _ rfl _ _ 22 rfl w1.heap.size 5 i0 (.int .u8 0) 1 1 Try.underlying22 hi hz0 hz1 hz2 rfl (by decide) _ _ _ rfl (hown.alloc _) ⟨wr.heap.size, 0, none⟩ 1 1 [.int .u8 (x.toNat : Int)] rfl rfl ?c1 ?c2 ?c3 ?c4 ?c5 ?_)
        case c1 => exact cell_one_new _ _ _
        case c2 => simp [Value.oneCell']
        case c3 => unfold maxLen; omega
        case c4 => omega
        case c5 => have := hb.size; simp; omega
        intro v' w2 hown2 hgrow _
        have hb2 : Below w1.heap.size w1 w2 := (hb.alloc hb.size _).grown hgrow (by have := hb.size; simp; omega) (own_from hown)
        have hown3 : w2.ownsRow w1.heap.size 5 1 v' (j + 1) (u8s (T.take (j + 1))) := by rw [HX.out, u8s_app]; exact hown2
        have HO := Lib.hid hown3
        clear hown hb hgrow hown2 hown3 hc1 k0 k1
        go_wp2
        go_roundw
        case rel => exact ⟨j + 1, by omega, by go_num, HO.out, hb2⟩
        case measure => simp [intOf]; omega
      · have hjk : j = k := by omega
        subst hjk
        have hl := HL.out
        rw [List.take_of_length_le (by rw [hl]; simp)] at hown
        have HO := Lib.hid (own_byt hown)
        have HB2 := Lib.hid hb
        obtain ⟨B, e', rfl⟩ := (own_byt hown).form
        clear hown hb hl hok
        go_wp2
        go_ret2
        exact ⟨_, _, _, rfl, HO.out, below_then HB.out HB2.out⟩
end Go.Proofs.Ytekfemkoiadipaa
