/- The walk of StkTells. -/
import Derived.Test.YtjeapcpicagobaaStkNames
import Derived.Laws.OwnMore
import Derived.Deep.AppendLies
import Derived.Deep.RegionHeld3
namespace Go.Proofs.Ytjeapcpicagobaa
open Go.RowKit
set_option linter.unusedVariables false
set_option linter.unusedSimpArgs false


theorem info_str : (Try.prog.info? 9).map (fun i => (i.zero, i.size, i.bytes)) = some (some (.string ByteArray.empty), 1, 16) := by kernel_rfl
theorem made (w : World) : (w.alloc (.cells #[.string ⟨#[68, 85, 80]⟩, .string ⟨#[68, 82, 79, 80]⟩, .string ⟨#[83, 87, 65, 80]⟩, .string ⟨#[79, 86, 69, 82]⟩, .string ⟨#[82, 79, 84]⟩, .string ⟨#[45, 82, 79, 84]⟩, .string ⟨#[78, 73, 80]⟩, .string ⟨#[84, 85, 67, 75]⟩, .string ⟨#[63, 68, 85, 80]⟩, .string ⟨#[50, 68, 85, 80]⟩, .string ⟨#[50, 68, 82, 79, 80]⟩, .string ⟨#[50, 83, 87, 65, 80]⟩, .string ⟨#[50, 79, 86, 69, 82]⟩, .string ⟨#[80, 73, 67, 75]⟩, .string ⟨#[82, 79, 76, 76]⟩, .string ⟨#[68, 69, 80, 84, 72]⟩] 9)).ownsRow w.heap.size 9 1 (.slice (some ⟨w.heap.size, 0, none⟩) 16 16) 16 (namesL.map Value.string) :=
  World.ownsRow_lit w #[.string ⟨#[68, 85, 80]⟩, .string ⟨#[68, 82, 79, 80]⟩, .string ⟨#[83, 87, 65, 80]⟩, .string ⟨#[79, 86, 69, 82]⟩, .string ⟨#[82, 79, 84]⟩, .string ⟨#[45, 82, 79, 84]⟩, .string ⟨#[78, 73, 80]⟩, .string ⟨#[84, 85, 67, 75]⟩, .string ⟨#[63, 68, 85, 80]⟩, .string ⟨#[50, 68, 85, 80]⟩, .string ⟨#[50, 68, 82, 79, 80]⟩, .string ⟨#[50, 83, 87, 65, 80]⟩, .string ⟨#[50, 79, 86, 69, 82]⟩, .string ⟨#[80, 73, 67, 75]⟩, .string ⟨#[82, 79, 76, 76]⟩, .string ⟨#[68, 69, 80, 84, 72]⟩] 16 (Nat.le_refl _) (by unfold maxLen; omega) rfl
theorem StrRow.of {w : World} {base : Nat} {v : Value} {n : Nat} {l : List ByteArray} {s : ByteArray} (h : w.ownsRow base 9 1 v (n + 1) (l.map Value.string ++ [.string s])) (hl : l.length = n) {m : Nat} (hm : n + 1 = m) :
    ∃ g cap, v = .slice (some ⟨g, 0, none⟩) m cap ∧ StrRow g (l ++ [s]) w := by
  subst hm
  obtain ⟨g, cap, rfl, _, hg⟩ := h.form (by omega)
  refine ⟨g, cap, rfl, hg, fun k t hk => ?_⟩
  have hlt : k < n + 1 := by
    have := (List.getElem?_eq_some_iff.1 hk).1
    simp at this
    omega
  rw [h.cellAt k (by omega)]
  have e : l.map Value.string ++ [Value.string s] = (l ++ [s]).map Value.string := by simp
  rw [e, List.getElem?_map, hk]
  rfl
theorem cell_one (w : World) (s : ByteArray) : ∀ j u, [Value.string s][j]? = some u → (w.alloc (.cells #[.string s] 9)).cell? ((⟨w.heap.size, 0, none⟩ : Addr).add j) = some u := by
  intro j u h
  have hj : j = 0 := by
    have := (List.getElem?_eq_some_iff.1 h).1
    simp at this
    omega
  subst hj
  rw [Addr.add_lit, World.cell?_alloc_new]
  simpa using h
theorem grown_below {w w1 w3 : World} {o o' : Obj} (b1 : Below w.heap.size w w1) (g : ((w1.alloc o).alloc o').grownBy w3 (some w1.heap.size)) : Below w.heap.size w w3 :=
  ((b1.alloc b1.size o).alloc (by have := b1.size; simp; omega) o').grown g (by have := b1.size; simp; omega) (fun k hk => by cases hk; exact b1.size)

/-- The contracts over letters: what both answer, the same. -/
theorem push_l (A : Option Addr) (n c : Nat) (x limit : Int) (l P : List Int) (M : Nat) (C : Int) (w : World) (hn : n ≤ 60) (HR : Hid (Row w A n c l)) (HP : Hid (pushL l x limit = P)) (HM : Hid (P.length = M)) (HC : Hid (pushC l limit = C)) :
    Calls Try.prog 9 #[.slice A n c, .int .i64 x, .int .i64 limit] w fun e w' => ∃ B d, e = .returned (.tuple #[.slice B M d, .int .i64 C]) ∧ Row w' B M d P ∧ Below w.heap.size w w' := by
  have h1 := HP.out; have h2 := HM.out; have h3 := HC.out
  subst h1 h2 h3
  refine (push_at A n c x limit l w (by omega) HR).mono ?_
  rintro e w' ⟨B, m, d, rfl, hr, hb⟩
  obtain rfl := hr.len
  exact ⟨_, _, rfl, hr, hb⟩
theorem rpush_l (A : Option Addr) (n c : Nat) (x limit : Int) (l P : List Int) (M : Nat) (C : Int) (w : World) (hn : n ≤ 60) (HR : Hid (Row w A n c l)) (HP : Hid (pushL l x limit = P)) (HM : Hid (P.length = M)) (HC : Hid (pushC l limit = C)) :
    Calls Try.prog 10 #[.slice A n c, .int .i64 x, .int .i64 limit] w fun e w' => ∃ B d, e = .returned (.tuple #[.slice B M d, .int .i64 C]) ∧ Row w' B M d P ∧ Below w.heap.size w w' := by
  have h1 := HP.out; have h2 := HM.out; have h3 := HC.out
  subst h1 h2 h3
  refine (rpush_at A n c x limit l w (by omega) HR).mono ?_
  rintro e w' ⟨B, m, d, rfl, hr, hb⟩
  obtain rfl := hr.len
  exact ⟨_, _, rfl, hr, hb⟩
theorem pop_l (A : Option Addr) (n c : Nat) (l P : List Int) (M : Nat) (X C : Int) (w : World) (hn : n ≤ 60) (HR : Hid (Row w A n c l)) (HX : Hid (popX l = X)) (HP : Hid (popL l = P)) (HM : Hid (P.length = M)) (HC : Hid (popC l = C)) :
    Calls Try.prog 11 #[.slice A n c] w fun e w' => ∃ B d, e = .returned (.tuple #[.int .i64 X, .slice B M d, .int .i64 C]) ∧ Row w' B M d P ∧ Below w.heap.size w w' := by
  have h0 := HX.out; have h1 := HP.out; have h2 := HM.out; have h3 := HC.out
  subst h0 h1 h2 h3
  refine (pop_at A n c l w (by omega) HR).mono ?_
  rintro e w' ⟨B, m, d, rfl, hr, hb⟩
  obtain rfl := hr.len
  exact ⟨_, _, rfl, hr, hb⟩
theorem rpop_l (A : Option Addr) (n c : Nat) (l P : List Int) (M : Nat) (X C : Int) (w : World) (hn : n ≤ 60) (HR : Hid (Row w A n c l)) (HX : Hid (popX l = X)) (HP : Hid (popL l = P)) (HM : Hid (P.length = M)) (HC : Hid (popC l = C)) :
    Calls Try.prog 12 #[.slice A n c] w fun e w' => ∃ B d, e = .returned (.tuple #[.int .i64 X, .slice B M d, .int .i64 C]) ∧ Row w' B M d P ∧ Below w.heap.size w w' := by
  have h0 := HX.out; have h1 := HP.out; have h2 := HM.out; have h3 := HC.out
  subst h0 h1 h2 h3
  refine (rpop_at A n c l w (by omega) HR).mono ?_
  rintro e w' ⟨B, m, d, rfl, hr, hb⟩
  obtain rfl := hr.len
  exact ⟨_, _, rfl, hr, hb⟩

/-- Both Shuffles answer the same, at each name. -/
def Both (A : Option Addr) (n c : Nat) (l : List Int) (limit : Int) (t : ByteArray) : Prop := ∃ (Z : Bool) (C : Int) (P : List Int) (M : Nat), M ≤ 62 ∧ Hid (∀ w, Row w A n c l → Calls Try.prog 15 #[.string t, .slice A n c, .int .i64 limit] w fun e w' => ∃ B d, e = .returned (.tuple #[.slice B M d, .bool Z, .int .i64 C]) ∧ Row w' B M d P ∧ Below w.heap.size w w') ∧ Hid (∀ w, Row w A n c l → Calls Try.prog 16 #[.string t, .slice A n c, .int .i64 limit] w fun e w' => ∃ B d, e = .returned (.tuple #[.slice B M d, .bool Z, .int .i64 C]) ∧ Row w' B M d P ∧ Below w.heap.size w w')

theorem res_len (k : Kind) (l o : List Int) (hk : ∀ a b, k = .perm a b → b.length ≤ a + 2) (h : resF k l = .out o) : o.length ≤ l.length + 2 := by
  cases k with
  | perm a b =>
    simp only [resF] at h
    by_cases hl : l.length < a
    · rw [if_pos hl] at h; cases h
    · rw [if_neg hl] at h
      injection h with h
      have := hk a b rfl
      rw [← h]
      simp [leftL]
      omega
  | qdup =>
    simp only [resF] at h
    by_cases hl : l.length = 0
    · rw [if_pos hl] at h; cases h
    · rw [if_neg hl] at h
      injection h with h
      rw [← h]
      split <;> simp
  | depth =>
    injection h with h
    rw [← h]
    simp
  | pick =>
    cases hz : numOk l with
    | false => rw [pick_no hz] at h; cases h
    | true =>
      simp only [resF, hz, if_true] at h
      injection h with h
      rw [← h]
      simp
      omega
  | roll =>
    cases hz : numOk l with
    | false => rw [roll_no hz] at h; cases h
    | true =>
      simp only [resF, hz, if_true] at h
      injection h with h
      rw [← h]
      simp
      omega
  | none => cases h
theorem kind_len (s : ByteArray) : ∀ a b, kindF s.data.toList = .perm a b → b.length ≤ a + 2 := by
  refine name_cases s (P := fun s => ∀ a b, kindF s.data.toList = .perm a b → b.length ≤ a + 2) ?_ ?_ ?_ ?_ ?_ ?_ ?_ ?_ ?_ ?_ ?_ ?_ ?_ ?_ ?_ ?_ ?_
  · intro a b h
    rw [kind_DUP] at h
    injection h with h1 h2
    subst h1 h2
    decide
  · intro a b h
    rw [kind_DROP] at h
    injection h with h1 h2
    subst h1 h2
    decide
  · intro a b h
    rw [kind_SWAP] at h
    injection h with h1 h2
    subst h1 h2
    decide
  · intro a b h
    rw [kind_OVER] at h
    injection h with h1 h2
    subst h1 h2
    decide
  · intro a b h
    rw [kind_NIP] at h
    injection h with h1 h2
    subst h1 h2
    decide
  · intro a b h
    rw [kind_TUCK] at h
    injection h with h1 h2
    subst h1 h2
    decide
  · intro a b h
    rw [kind_ROT] at h
    injection h with h1 h2
    subst h1 h2
    decide
  · intro a b h
    rw [kind_mROT] at h
    injection h with h1 h2
    subst h1 h2
    decide
  · intro a b h
    rw [kind_2DUP] at h
    injection h with h1 h2
    subst h1 h2
    decide
  · intro a b h
    rw [kind_2DROP] at h
    injection h with h1 h2
    subst h1 h2
    decide
  · intro a b h
    rw [kind_2SWAP] at h
    injection h with h1 h2
    subst h1 h2
    decide
  · intro a b h
    rw [kind_2OVER] at h
    injection h with h1 h2
    subst h1 h2
    decide
  · intro a b h
    rw [kind_qDUP] at h
    cases h
  · intro a b h
    rw [kind_DEPTH] at h
    cases h
  · intro a b h
    rw [kind_PICK] at h
    cases h
  · intro a b h
    rw [kind_ROLL] at h
    cases h
  · intro e0 e1 e2 e3 e4 e5 e6 e7 e8 e9 e10 e11 e12 e13 e14 e15 a b h
    rw [kind_other _ e0 e1 e2 e3 e4 e5 e6 e7 e8 e9 e10 e11 e12 e13 e14 e15] at h
    cases h
theorem list_len (s : ByteArray) (l : List Int) (limit : Int) (hl : l.length ≤ 60) : (listR (resF (kindF s.data.toList) l) l limit).length ≤ 62 := by
  cases h : resF (kindF s.data.toList) l with
  | no => simp only [listR]; omega
  | under => simp only [listR]; omega
  | out o =>
    have := res_len _ l o (kind_len s) h
    simp only [listR]
    split <;> omega
theorem both_all (A : Option Addr) (n c : Nat) (l : List Int) (limit : Int) (t : ByteArray) (hn : n ≤ 60) (hl : l.length = n) : Both A n c l limit t := by
  refine ⟨knownR (resF (kindF t.data.toList) l), codeR (resF (kindF t.data.toList) l) limit, listR (resF (kindF t.data.toList) l) l limit, _, list_len t l limit (by omega), Lib.hid fun w hR => (shuffle_at A n c t l limit w (by omega) (Lib.hid hR)).mono ?_, Lib.hid fun w hR => (rshuffle_at A n c t l limit w (by omega) hR).mono ?_⟩
  · rintro e w' ⟨B, m, d, rfl, hr, hb⟩
    obtain rfl := hr.len
    exact ⟨_, _, rfl, hr, hb⟩
  · rintro e w' ⟨B, m, d, rfl, hr, hb⟩
    obtain rfl := hr.len
    exact ⟨_, _, rfl, hr, hb⟩

set_option maxRecDepth 100000 in
set_option maxHeartbeats 16000000 in
theorem tells_core (A : Option Addr) (n c : Nat) (l P1 P2 : List Int) (M1 M2 : Nat) (x limit C1 X2 C2 : Int) (s : ByteArray) (w0 : World) (hn : n ≤ 60) (hs : (s.size : Int) ≤ 20) (hM1 : M1 ≤ 61) (hM2 : M2 ≤ 60) (S0 : Hid (Row w0 A n c l))
    (HP1 : Hid (pushL l x limit = P1)) (HM1 : Hid (P1.length = M1)) (HC1 : Hid (pushC l limit = C1)) (HX2 : Hid (popX l = X2)) (HP2 : Hid (popL l = P2)) (HM2 : Hid (P2.length = M2)) (HC2 : Hid (popC l = C2)) (HBO : Hid (∀ t, Both A n c l limit t)) :
    Calls Try.prog 3 #[.agg #[.slice A n c, .int .i64 x, .int .i64 limit, .string s]] w0 fun e w' => e = .returned (.bool true) ∧ Below w0.heap.size w0 w' := by
  have q1 : decide ((60 : Int) < (n : Int)) = false := by simp; omega
  have q2 : decide (60 < n) = false := by simp; omega
  have q3 : decide ((20 : Int) < (s.size : Int)) = false := by simp; omega
  have q4 : decide (20 < s.size) = false := by simp; omega
  obtain ⟨i0, hi, hz0, hz1, hz2⟩ := info_parts info_str
  have HI := Lib.hid hi
  clear hi
  go_enter Try.func3, Try.ntmps3
  go_wp2_with fail
  refine (shown_any _).mono ?_
  rintro e w1 ⟨rfl, bb⟩
  have kk := below_then (below_one _ _) bb
  have B1 := Lib.hid kk
  have S1 := Lib.hid (S0.out.keep kk)
  clear bb kk S0
  go_wp2_with fail
  refine (push_l A n c x limit l P1 M1 C1 _ hn S1 HP1 HM1 HC1).mono ?_
  rintro e w2 ⟨X10, y1, rfl, hr, bb⟩
  have B2 := Lib.hid (below_then B1.out bb)
  have S2 := Lib.hid (S1.out.keep bb)
  have a2 := Lib.hid hr
  clear bb B1 S1 hr
  go_wp2_with fail
  refine (rpush_l A n c x limit l P1 M1 C1 _ hn S2 HP1 HM1 HC1).mono ?_
  rintro e w3 ⟨X20, y2, rfl, hr, bb⟩
  have B3 := Lib.hid (below_then B2.out bb)
  have S3 := Lib.hid (S2.out.keep bb)
  have a3 := Lib.hid (a2.out.keep bb)
  have b3 := Lib.hid hr
  clear bb B2 S2 a2 hr
  go_wp2_with fail
  refine (pop_l A n c l P2 M2 X2 C2 _ hn S3 HX2 HP2 HM2 HC2).mono ?_
  rintro e w4 ⟨X30, y3, rfl, hr, bb⟩
  have B4 := Lib.hid (below_then B3.out bb)
  have S4 := Lib.hid (S3.out.keep bb)
  have a4 := Lib.hid (a3.out.keep bb)
  have b4 := Lib.hid (b3.out.keep bb)
  have p4 := Lib.hid hr
  clear bb B3 S3 a3 b3 hr
  go_wp2_with fail
  refine (rpop_l A n c l P2 M2 X2 C2 _ hn S4 HX2 HP2 HM2 HC2).mono ?_
  rintro e w5 ⟨X40, y4, rfl, hr, bb⟩
  have B5 := Lib.hid (below_then B4.out bb)
  have S5 := Lib.hid (S4.out.keep bb)
  have a5 := Lib.hid (a4.out.keep bb)
  have b5 := Lib.hid (b4.out.keep bb)
  have p5 := Lib.hid (p4.out.keep bb)
  have r5 := Lib.hid hr
  clear bb B4 S4 a4 b4 p4 hr
  go_wp2_with fail
  refine (same_true X10 X20 M1 y1 M1 y2 P1 P1 _ (by omega) (by omega) a5 b5 (Lib.hid (rfl))).mono ?_
  rintro e w6 ⟨rfl, bb⟩
  have B6 := Lib.hid (below_then B5.out bb)
  have S6 := Lib.hid (S5.out.keep bb)
  have a6 := Lib.hid (a5.out.keep bb)
  have b6 := Lib.hid (b5.out.keep bb)
  have p6 := Lib.hid (p5.out.keep bb)
  have r6 := Lib.hid (r5.out.keep bb)
  clear bb B5 S5 a5 b5 p5 r5
  clear a6
  clear b6
  go_wp2_with fail
  refine (same_true X30 X40 M2 y3 M2 y4 P2 P2 _ (by omega) (by omega) p6 r6 (Lib.hid (rfl))).mono ?_
  rintro e w7 ⟨rfl, bb⟩
  have B7 := Lib.hid (below_then B6.out bb)
  have S7 := Lib.hid (S6.out.keep bb)
  have p7 := Lib.hid (p6.out.keep bb)
  have r7 := Lib.hid (r6.out.keep bb)
  clear bb B6 S6 p6 r6
  clear p7
  clear r7
  go_wp2_with (first
    | (go_at_call 14; ((with_reducible refine (names_lit _).mono ?_); rintro e w2' ⟨rfl, rfl⟩))
    | (at_builtin; refine wpList_append_own _ rfl _ _ 36 rfl w7.heap.size 9 i0 (.string ByteArray.empty) 1 16 Try.underlying36 HI.out hz0 hz1 hz2 rfl (by decide) _ _ _ rfl ((made w7).alloc _) ⟨w7.heap.size + 1, 0, none⟩ 1 1 [.string s] rfl rfl (by simpa using cell_one (w7.alloc (.cells #[.string ⟨#[68, 85, 80]⟩, .string ⟨#[68, 82, 79, 80]⟩, .string ⟨#[83, 87, 65, 80]⟩, .string ⟨#[79, 86, 69, 82]⟩, .string ⟨#[82, 79, 84]⟩, .string ⟨#[45, 82, 79, 84]⟩, .string ⟨#[78, 73, 80]⟩, .string ⟨#[84, 85, 67, 75]⟩, .string ⟨#[63, 68, 85, 80]⟩, .string ⟨#[50, 68, 85, 80]⟩, .string ⟨#[50, 68, 82, 79, 80]⟩, .string ⟨#[50, 83, 87, 65, 80]⟩, .string ⟨#[50, 79, 86, 69, 82]⟩, .string ⟨#[80, 73, 67, 75]⟩, .string ⟨#[82, 79, 76, 76]⟩, .string ⟨#[68, 69, 80, 84, 72]⟩] 9)) s) (fun x hx => by simp at hx; subst hx; rfl) (by unfold maxLen; omega) (by omega) (by simp; omega) ?_; intro v' wq hown hgrow hnil))
  have b3 := grown_below B7.out hgrow
  have k3 := grown_below (Below.refl w7.heap.size w7) hgrow
  obtain ⟨g, cap, rfl, hrow⟩ := StrRow.of hown rfl (m := 17) rfl
  have SQ := Lib.hid (S7.out.keep k3)
  have BQ := Lib.hid b3
  have NQ := Lib.hid hrow
  clear hown hgrow hnil b3 k3 hrow S7 B7
  go_wp2
  go_loopw [19] (fun i wr => ∃ k : Nat, k ≤ 17 ∧ i = .int .i64 (k : Int) ∧ Hid (StrRow g (namesL ++ [s]) wr) ∧ Hid (Row wr A n c l) ∧ Hid (Below w0.heap.size w0 wr)) (fun i _ => 17 - (intOf i).toNat)
  case atStart => exact ⟨0, by omega, rfl, NQ, SQ, BQ⟩
  case round =>
    obtain ⟨k, hk, rfl, N0, S0', B0⟩ := hrel
    clear NQ SQ BQ
    by_cases hlt : k < 17
    · obtain ⟨t, ht⟩ : ∃ t, (namesL ++ [s])[k]? = some t := ⟨_, List.getElem?_eq_getElem (show k < (namesL ++ [s]).length from hlt)⟩
      have hc := N0.out.2 k t ht
      obtain ⟨Z, C, P, M, hM, hA, hB⟩ := HBO.out t
      clear ht
      go_wp2_with fail
      refine (hA.out _ S0'.out).mono ?_
      rintro e u1 ⟨Y1, y91, rfl, hr, bb⟩
      have N1 := Lib.hid (N0.out.keep bb)
      have S1 := Lib.hid (S0'.out.keep bb)
      have B1 := Lib.hid (below_then B0.out bb)
      have P1' := Lib.hid hr
      have hc1 := (bb.cell (p := ⟨g, k, none⟩) N0.out.1).trans hc
      clear bb hr hc N0 S0' B0 hA
      go_wp2_with fail
      refine (hB.out _ S1.out).mono ?_
      rintro e u2 ⟨Y2, y92, rfl, hr, bb⟩
      have N2 := Lib.hid (N1.out.keep bb)
      have S2 := Lib.hid (S1.out.keep bb)
      have B2 := Lib.hid (below_then B1.out bb)
      have P2' := Lib.hid (P1'.out.keep bb)
      have Q2' := Lib.hid hr
      clear bb hr hc1 N1 S1 B1 hB P1'
      go_wp2_with fail
      refine (same_true Y1 Y2 M y91 M y92 P P _ (by omega) (by omega) P2' Q2' (Lib.hid rfl)).mono ?_
      rintro e u3 ⟨rfl, bb⟩
      have N3 := Lib.hid (N2.out.keep bb)
      have S3 := Lib.hid (S2.out.keep bb)
      have B3 := Lib.hid (below_then B2.out bb)
      clear bb N2 S2 B2 P2' Q2'
      go_wp2
      go_roundw
      case rel => exact ⟨k + 1, by omega, by go_num, N3, S3, B3⟩
      case measure => simp [intOf]; omega
    · have he : k = 17 := by omega
      subst he
      clear hlt hk
      rw [show ((17 : Nat) : Int) = 17 from rfl]
      go_wp2
      go_ret
      exact ⟨rfl, B0.out⟩

set_option maxRecDepth 100000 in
set_option maxHeartbeats 4000000 in
theorem tells_long1 (A : Option Addr) (n c : Nat) (x limit : Int) (s : ByteArray) (w0 : World) (hn : (60 : Int) < (n : Int)) :
    Calls Try.prog 3 #[.agg #[.slice A n c, .int .i64 x, .int .i64 limit, .string s]] w0 fun e w' => e = .returned (.bool true) ∧ Below w0.heap.size w0 w' := by
  go_enter Try.func3, Try.ntmps3
  go_wp2_with fail
  refine (shown_any _).mono ?_
  rintro e w1 ⟨rfl, bb⟩
  have B1 := Lib.hid (below_then (below_one _ _) bb)
  clear bb
  go_wp2
  go_ret
  exact ⟨rfl, B1.out⟩
set_option maxRecDepth 100000 in
set_option maxHeartbeats 4000000 in
theorem tells_long2 (A : Option Addr) (n c : Nat) (x limit : Int) (s : ByteArray) (w0 : World) (hn : n ≤ 60) (hs : (20 : Int) < (s.size : Int)) :
    Calls Try.prog 3 #[.agg #[.slice A n c, .int .i64 x, .int .i64 limit, .string s]] w0 fun e w' => e = .returned (.bool true) ∧ Below w0.heap.size w0 w' := by
  have q1 : decide ((60 : Int) < (n : Int)) = false := by simp; omega
  have q2 : decide (60 < n) = false := by simp; omega
  go_enter Try.func3, Try.ntmps3
  go_wp2_with fail
  refine (shown_any _).mono ?_
  rintro e w1 ⟨rfl, bb⟩
  have B1 := Lib.hid (below_then (below_one _ _) bb)
  clear bb
  go_wp2
  go_ret
  exact ⟨rfl, B1.out⟩
theorem push_len (l : List Int) (x limit : Int) : (pushL l x limit).length ≤ l.length + 1 := by
  unfold pushL
  split <;> simp
theorem pop_len (l : List Int) : (popL l).length ≤ l.length := by
  unfold popL
  simp
theorem tells_walk (A : Option Addr) (n c : Nat) (l : List Int) (x limit : Int) (s : ByteArray) (w0 : World) (HR : Hid (Row w0 A n c l)) :
    Calls Try.prog 3 #[.agg #[.slice A n c, .int .i64 x, .int .i64 limit, .string s]] w0 fun e w' => e = .returned (.bool true) ∧ Below w0.heap.size w0 w' := by
  by_cases h1 : 60 < n
  · exact tells_long1 A n c x limit s w0 (by omega)
  by_cases h2 : 20 < s.size
  · exact tells_long2 A n c x limit s w0 (by omega) (by omega)
  have hl := HR.out.len
  exact tells_core A n c l _ _ _ _ x limit _ _ _ s w0 (by omega) (by omega) (by have := push_len l x limit; omega) (by have := pop_len l; omega) HR (Lib.hid rfl) (Lib.hid rfl) (Lib.hid rfl) (Lib.hid rfl) (Lib.hid rfl) (Lib.hid rfl) (Lib.hid rfl) (Lib.hid fun t => both_all A n c l limit t (by omega) hl)
end Go.Proofs.Ytjeapcpicagobaa
