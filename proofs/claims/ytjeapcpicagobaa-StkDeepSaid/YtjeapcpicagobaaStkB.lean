/- Contracts of Push and Pop of package stk, and of the document's own. -/
import Derived.Test.YtjeapcpicagobaaStkA
import Derived.Deep.RegionHeld3
import Derived.IntWalk
namespace Go.Proofs.Ytjeapcpicagobaa
open Go.RowKit
set_option linter.unusedVariables false
set_option linter.unusedSimpArgs false

/-- What Push answers. -/
def pushL (l : List Int) (x limit : Int) : List Int := if limit ≤ (l.length : Int) then l else l ++ [x]
def pushC (l : List Int) (limit : Int) : Int := if limit ≤ (l.length : Int) then -3 else 0
/-- What Pop answers. -/
def popX (l : List Int) : Int := l.getD (l.length - 1) 0
def popL (l : List Int) : List Int := l.take (l.length - 1)
def popC (l : List Int) : Int := if l.length = 0 then -4 else 0

set_option maxRecDepth 100000 in
set_option maxHeartbeats 1000000 in
theorem push_at (A : Option Addr) (n c : Nat) (x limit : Int) (l : List Int) (w : World) (hn : n ≤ 65536) (HR : Hid (Row w A n c l)) :
    Calls Try.prog 9 #[.slice A n c, .int .i64 x, .int .i64 limit] w fun e w' => ∃ B m d, e = .returned (.tuple #[.slice B m d, .int .i64 (pushC l limit)]) ∧ Row w' B m d (pushL l x limit) ∧ Below w.heap.size w w' := by
  have hl := HR.out.1
  by_cases h : limit ≤ (n : Int)
  · have H1 : Hid (pushC l limit = -3) := if_pos (by rw [hl]; exact h)
    have H2 : Hid (pushL l x limit = l) := if_pos (by rw [hl]; exact h)
    rw [H1.out]
    clear hl
    go_enter Try.func9, Try.ntmps9
    go_wp2_with fail
    refine (own_any _ _ _ l _ hn HR).mono ?_
    rintro e w1 ⟨g, rfl, ho, b1⟩
    have HO := Lib.hid ho
    clear ho
    go_wp2_with fail
    go_ret2
    obtain ⟨B, d, e, hr⟩ := HO.out.row
    injection e with e1 e2 e3
    subst e1 e3
    exact ⟨_, _, _, rfl, by rw [H2.out]; exact hr, b1⟩
  · have H1 : Hid (pushC l limit = 0) := if_neg (by rw [hl]; exact h)
    have H2 : Hid (pushL l x limit = l ++ [x]) := if_neg (by rw [hl]; exact h)
    rw [H1.out]
    have h' : decide (limit ≤ (n : Int)) = false := by simp; omega
    clear hl h
    go_enter Try.func9, Try.ntmps9
    go_wp2_with fail
    refine (with_any _ _ _ x l _ hn HR).mono ?_
    rintro e w1 ⟨g, rfl, ho, b1⟩
    have HO := Lib.hid ho
    clear ho
    go_wp2_with fail
    go_ret2
    obtain ⟨B, d, e, hr⟩ := HO.out.row
    injection e with e1 e2 e3
    subst e1 e3
    exact ⟨_, _, _, rfl, by rw [H2.out]; exact hr, b1⟩

set_option maxRecDepth 100000 in
set_option maxHeartbeats 1000000 in
theorem rpush_at (A : Option Addr) (n c : Nat) (x limit : Int) (l : List Int) (w : World) (hn : n ≤ 65536) (HR : Hid (Row w A n c l)) :
    Calls Try.prog 10 #[.slice A n c, .int .i64 x, .int .i64 limit] w fun e w' => ∃ B m d, e = .returned (.tuple #[.slice B m d, .int .i64 (pushC l limit)]) ∧ Row w' B m d (pushL l x limit) ∧ Below w.heap.size w w' := by
  have hl := HR.out.1
  by_cases h : limit ≤ (n : Int)
  · have H1 : Hid (pushC l limit = -3) := if_pos (by rw [hl]; exact h)
    have H2 : Hid (pushL l x limit = l) := if_pos (by rw [hl]; exact h)
    rw [H1.out]
    clear hl
    go_enter Try.func10, Try.ntmps10
    go_wp2
    go_ret2
    exact ⟨_, _, _, rfl, by rw [H2.out]; exact HR.out, Below.refl _ _⟩
  · have H1 : Hid (pushC l limit = 0) := if_neg (by rw [hl]; exact h)
    have H2 : Hid (pushL l x limit = l ++ [x]) := if_neg (by rw [hl]; exact h)
    rw [H1.out]
    have h' : decide (limit ≤ (n : Int)) = false := by simp; omega
    clear hl h
    go_enter Try.func10, Try.ntmps10
    have tok1 : True := trivial
    go_wp2_with (first
      | (at_builtin; have _t := tok1; (refine wpList_app rfl _ _ rfl w.heap.size (.slice (some ⟨w.heap.size, 0, none⟩) 0 0) 0 [] rfl (none_owns w) A n c l rfl (HR.out.keep (below_one _ _)) (by omega) (by simp) w (below_one _ _) (Nat.le_refl _) ?_; intro v1 w1 ho b1; have HO := Lib.hid ho; have HB := Lib.hid b1; clear ho b1 tok1))
      | (at_builtin; (refine wpList_app rfl _ _ rfl w.heap.size v1 _ _ rfl (HO.out.alloc _) (some ⟨w1.heap.size, 0, none⟩) 1 1 [x] rfl (one_row w1 x) (by omega) (by have := HB.out.size; simp; omega) w (below_then HB.out (below_one _ _)) (Nat.le_refl _) ?_; intro v2 w2 ho b2; (obtain ⟨B, d, rfl, hr⟩ := ho.row); have HO2 := Lib.hid hr; have HB2 := Lib.hid b2; clear ho hr b2)))
    go_ret2
    exact ⟨_, _, _, rfl, by rw [H2.out]; have z := HO2.out; rw [Nat.zero_add, List.nil_append] at z; exact z, HB2.out⟩

theorem pop_some {l : List Int} {k : Nat} (h : l.length = k + 1) : popX l = l.getD k 0 ∧ popL l = l.take k ∧ popC l = 0 := by
  unfold popX popL popC
  rw [h]
  exact ⟨rfl, rfl, rfl⟩

set_option maxRecDepth 100000 in
set_option maxHeartbeats 4000000 in
theorem pop_at (A : Option Addr) (n c : Nat) (l : List Int) (w : World) (hn : n ≤ 65536) (HR : Hid (Row w A n c l)) :
    Calls Try.prog 11 #[.slice A n c] w fun e w' => ∃ B m d, e = .returned (.tuple #[.int .i64 (popX l), .slice B m d, .int .i64 (popC l)]) ∧ Row w' B m d (popL l) ∧ Below w.heap.size w w' := by
  have hl := HR.out.1
  have hc := HR.out.2.1
  have hm := HR.out.2.2.1
  cases n with
  | zero =>
    obtain rfl : l = [] := List.eq_nil_of_length_eq_zero hl
    clear hl
    go_enter Try.func11, Try.ntmps11
    go_wp2
    go_ret3
    exact ⟨_, _, _, rfl, row_nil _, Below.refl _ _⟩
  | succ k =>
    obtain ⟨h1, h2, h3⟩ := pop_some hl
    rw [h1, h3]
    obtain ⟨g, o, rfl, hg, hce⟩ := HR.out.cells (by omega)
    have k0 := hce k (by omega)
    obtain ⟨y, hy⟩ : ∃ y, l.getD k 0 = y := ⟨_, rfl⟩
    rw [hy] at k0 ⊢
    have H2 := Lib.hid h2
    have HT := Lib.hid (HR.out.high (k := k) (by omega))
    have hkc : (k : Int) ≤ (c : Int) := by omega
    have hk1 : (k : Int) < (k : Int) + 1 := by omega
    unfold maxLen at hm
    clear h1 h2 h3 hce hy hl hc
    go_enter Try.func11, Try.ntmps11
    have S0 : (w.cell? ⟨g, o + k, none⟩ = some (.int .i64 y) ∧ Since w w) := ⟨k0, Below.refl _ _⟩
    have SD : Hid (∀ a, (a.cell? ⟨g, o + k, none⟩ = some (.int .i64 y) ∧ Since w a) → (a.drew.cell? ⟨g, o + k, none⟩ = some (.int .i64 y) ∧ Since w a.drew)) := Lib.hid fun a h => ⟨h.1, h.2.drew⟩
    have SK : Hid (∀ a b, (a.cell? ⟨g, o + k, none⟩ = some (.int .i64 y) ∧ Since w a) → Below a.heap.size a b → (b.cell? ⟨g, o + k, none⟩ = some (.int .i64 y) ∧ Since w b)) := Lib.hid fun a b h kb => ⟨(h.2.then kb).cell hg k0, h.2.then kb⟩
    have HS0 := Lib.hid S0
    clear S0 k0
    go_wp2_with fail
    refine wp_region_noPanic ?_
    go_region_held3 (fun a => a.cell? ⟨g, o + k, none⟩ = some (.int .i64 y) ∧ Since w a) (first | assumption | exact SD.out _ HS0.out)
      (first | (go_at_call 18; have s4 : (_ ∧ Since w _) := (by assumption); ((with_reducible refine (own_any _ _ _ (l.take k) _ (by omega) (Lib.hid (HT.out.keep s4.2.bel))).mono ?_); rintro e w5 ⟨g5, rfl, ho, b5⟩; have s5 := SK.out _ _ s4 b5; have HO := Lib.hid ho; clear ho s4)))
    all_goals (refine NoPanic.normal ?_)
    all_goals go_wp2
    all_goals go_ret3
    all_goals
      obtain ⟨B, d, e, hr⟩ := HO.out.row
      injection e with e1 e2 e3
      subst e1 e3
      exact ⟨_, _, _, rfl, by rw [H2.out]; exact hr, s5.2⟩

theorem rpop_none (w : World) (c : Nat) (A : Option Addr) (hR : Row w A 0 c []) :
    Calls Try.prog 12 #[.slice A 0 c] w fun e w' => ∃ B m d, e = .returned (.tuple #[.int .i64 0, .slice B m d, .int .i64 (-4)]) ∧ Row w' B m d [] ∧ Below w.heap.size w w' := by
  have HR := Lib.hid hR
  clear hR
  go_enter Try.func12, Try.ntmps12
  go_wp2
  go_ret3
  exact ⟨_, _, _, rfl, HR.out, Below.refl _ _⟩

set_option maxRecDepth 100000 in
set_option maxHeartbeats 4000000 in
theorem rpop_some (g o k c : Nat) (l T : List Int) (y : Int) (w : World) (hn : k ≤ 65536) (hkc : (k : Int) ≤ (c : Int)) (hm : c ≤ 9223372036854775807) (hg : g < w.heap.size) (k0 : w.cell? ⟨g, o + k, none⟩ = some (.int .i64 y)) (HT : Hid (Row w (some ⟨g, o, none⟩) k c T)) :
    Calls Try.prog 12 #[.slice (some ⟨g, o, none⟩) (k + 1) c] w fun e w' => ∃ B m d, e = .returned (.tuple #[.int .i64 y, .slice B m d, .int .i64 0]) ∧ Row w' B m d T ∧ Below w.heap.size w w' := by
  have hk1 : (k : Int) < (k : Int) + 1 := by omega
  have S0 : (w.cell? ⟨g, o + k, none⟩ = some (.int .i64 y) ∧ Since w w) := ⟨k0, Below.refl _ _⟩
  have SD : Hid (∀ a, (a.cell? ⟨g, o + k, none⟩ = some (.int .i64 y) ∧ Since w a) → (a.drew.cell? ⟨g, o + k, none⟩ = some (.int .i64 y) ∧ Since w a.drew)) := Lib.hid fun a h => ⟨h.1, h.2.drew⟩
  have SK : Hid (∀ a b, (a.cell? ⟨g, o + k, none⟩ = some (.int .i64 y) ∧ Since w a) → Below a.heap.size a b → (b.cell? ⟨g, o + k, none⟩ = some (.int .i64 y) ∧ Since w b)) := Lib.hid fun a b h kb => ⟨(h.2.then kb).cell hg k0, h.2.then kb⟩
  have HS0 := Lib.hid S0
  have hz : ((k : Int) + 1 == 0) = false := by simp; omega
  have hw : IntKind.i64.wrap (k : Int) = (k : Int) := IntWalk.i64_in _ (by omega)
  clear S0 k0
  go_enter Try.func12, Try.ntmps12
  go_wp2_with fail
  refine wp_region_noPanic ?_
  go_region_held3 (fun a => a.cell? ⟨g, o + k, none⟩ = some (.int .i64 y) ∧ Since w a) (first | assumption | exact SD.out _ HS0.out | exact SK.out _ _ (SD.out _ HS0.out) (below_one _ _))
    (first | ((refine step_app rfl _ _ rfl w.heap.size (.slice (some ⟨w.heap.size, 0, none⟩) 0 0) 0 [] rfl (none_owns w) (some ⟨g, o, none⟩) k c T rfl (HT.out.keep (below_ad _ _)) (by omega) (by simp) w (below_ad _ _) (Nat.le_refl _) ?_; intro v1 w1 ho b1; have s5 := SK.out w w1 HS0.out b1; have HO := Lib.hid ho; clear ho b1)))
  all_goals (refine NoPanic.normal ?_)
  all_goals go_wp2
  all_goals (obtain ⟨B, d, rfl, hr⟩ := HO.out.row)
  all_goals go_ret3
  all_goals exact ⟨_, _, _, rfl, by rw [List.nil_append] at hr; exact hr, s5.2⟩

theorem rpop_at (A : Option Addr) (n c : Nat) (l : List Int) (w : World) (hn : n ≤ 65536) (HR : Hid (Row w A n c l)) :
    Calls Try.prog 12 #[.slice A n c] w fun e w' => ∃ B m d, e = .returned (.tuple #[.int .i64 (popX l), .slice B m d, .int .i64 (popC l)]) ∧ Row w' B m d (popL l) ∧ Below w.heap.size w w' := by
  have hl := HR.out.1
  have hc := HR.out.2.1
  have hm := HR.out.2.2.1
  unfold maxLen at hm
  cases n with
  | zero =>
    obtain rfl : l = [] := List.eq_nil_of_length_eq_zero hl
    exact rpop_none w c A HR.out
  | succ k =>
    obtain ⟨h1, h2, h3⟩ := pop_some hl
    rw [h1, h2, h3]
    obtain ⟨g, o, rfl, hg, hce⟩ := HR.out.cells (by omega)
    exact rpop_some g o k c l (l.take k) (l.getD k 0) w (by omega) (by omega) (by omega) hg (hce k (by omega)) (Lib.hid (HR.out.high (by omega)))

/-- Are two rows the same? -/
def sameB (a b : List Int) : Bool := decide (a = b)
theorem sameB_self (a : List Int) : sameB a a = true := by simp [sameB]
theorem sameB_of {a b : List Int} (h : a = b) : sameB a b = true := by simp [sameB, h]
theorem sameB_len {a b : List Int} (h : a.length ≠ b.length) : sameB a b = false := by
  simp only [sameB, decide_eq_false_iff_not]
  intro e
  exact h (by rw [e])
theorem take_ne {a b : List Int} {k : Nat} (h : a.getD k 0 ≠ b.getD k 0) : sameB a b = false := by
  simp only [sameB, decide_eq_false_iff_not]
  intro e
  exact h (by rw [e])
theorem take_all {a b : List Int} {n : Nat} (ha : a.length = n) (hb : b.length = n) (h : ∀ j, j < n → a.getD j 0 = b.getD j 0) : sameB a b = true := by
  refine sameB_of (List.ext_getElem (by omega) fun j h1 h2 => ?_)
  have := h j (by omega)
  simpa [List.getD, h1, h2] using this

set_option maxRecDepth 100000 in
set_option maxHeartbeats 4000000 in
theorem same_eq (A B : Option Addr) (n c d : Nat) (l r : List Int) (w : World) (hn : n ≤ 65536) (HL : Hid (Row w A n c l)) (HR : Hid (Row w B n d r)) :
    Calls Try.prog 13 #[.slice A n c, .slice B n d] w fun e w' => e = .returned (.bool (sameB l r)) ∧ Below w.heap.size w w' := by
  have HA : Hid (l.length = n) := HL.out.1
  have HB : Hid (r.length = n) := HR.out.1
  go_enter Try.func13, Try.ntmps13
  go_wp2
  go_loopw [5] (fun i wr => ∃ k : Nat, k ≤ n ∧ i = .int .i64 (k : Int) ∧ Hid (∀ j, j < k → l.getD j 0 = r.getD j 0) ∧ Below w.heap.size w wr) (fun i _ => n - (intOf i).toNat)
  case atStart => exact ⟨0, by omega, rfl, Lib.hid (fun j hj => by omega), Below.refl _ _⟩
  case round =>
    obtain ⟨k, hk, rfl, HJ, hb⟩ := hrel
    by_cases hlt : k < n
    · obtain ⟨g, o, rfl, hg, hc1⟩ := HL.out.cells (by omega)
      obtain ⟨g2, o2, rfl, hg2, hc2⟩ := HR.out.cells (by omega)
      obtain ⟨x, hx⟩ : ∃ x, l.getD k 0 = x := ⟨_, rfl⟩
      obtain ⟨y, hy⟩ : ∃ y, r.getD k 0 = y := ⟨_, rfl⟩
      have k1 := (hb.cell (p := ⟨g, o + k, none⟩) hg).trans (hc1 k hlt)
      have k2 := (hb.cell (p := ⟨g2, o2 + k, none⟩) hg2).trans (hc2 k hlt)
      rw [hx] at k1
      rw [hy] at k2
      have hlt' : (k : Int) < (n : Int) := by omega
      have H1 := Lib.hid hx
      have H2 := Lib.hid hy
      have H3 := Lib.hid hb
      clear hx hy hc1 hc2 hb
      by_cases he : x = y
      · have hne : (x != y) = false := by simp [he]
        have HE := Lib.hid he
        clear he
        go_wp2_with fail
        go_quiet (fail)
        go_wp2
        go_roundw
        case rel => exact ⟨k + 1, by omega, by go_num, Lib.hid (fun j hj => by
          by_cases hjk : j = k
          · subst hjk; rw [H1.out, H2.out, HE.out]
          · exact HJ.out j (by omega)), H3.out.trans (Go.Joins.below_draws _ _ _)⟩
        case measure => simp [intOf]; omega
      · have hne : (x != y) = true := by simp [he]
        have HE : Hid (sameB l r = false) := take_ne (k := k) (by rw [H1.out, H2.out]; exact he)
        clear he
        go_wp2_with fail
        go_quiet (fail)
        go_wp2
        go_ret
        exact ⟨ret_bool HE.out.symm, H3.out.trans (Go.Joins.below_draws _ _ _)⟩
    · have hkn : decide (k < n) = false := by simp; omega
      have HE : Hid (sameB l r = true) := take_all HA.out HB.out (fun j hj => HJ.out j (by omega))
      go_wp2
      go_ret
      exact ⟨ret_bool HE.out.symm, hb⟩

set_option maxRecDepth 100000 in
theorem same_at (A B : Option Addr) (n c m d : Nat) (l r : List Int) (w : World) (hn : n ≤ 65536) (hm : m ≤ 65536) (HL : Hid (Row w A n c l)) (HR : Hid (Row w B m d r)) :
    Calls Try.prog 13 #[.slice A n c, .slice B m d] w fun e w' => e = .returned (.bool (sameB l r)) ∧ Below w.heap.size w w' := by
  by_cases h : n = m
  · subst h
    exact same_eq A B n c d l r w hn HL HR
  · have HE : Hid (sameB l r = false) := sameB_len (by rw [HL.out.1, HR.out.1]; exact h)
    have h' : ((n : Int) != (m : Int)) = true := by simp; omega
    clear h
    go_enter Try.func13, Try.ntmps13
    go_wp2
    go_ret
    exact ⟨ret_bool HE.out.symm, Below.refl _ _⟩
end Go.Proofs.Ytjeapcpicagobaa
