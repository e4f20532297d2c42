/- A contract of the document's Shuffle: its three ways, for whatever takes and left answer. -/
import Derived.Test.YtjeapcpicagobaaStkK
import Derived.Test.YtjeapcpicagobaaStkSpec
namespace Go.Proofs.Ytjeapcpicagobaa
open Go.RowKit
set_option linter.unusedVariables false
set_option linter.unusedSimpArgs false

theorem Owns.keep {w w' : World} {base n : Nat} {v : Value} {l : List Int} (h : Owns w base v n l) (b : Below w.heap.size w w') : Owns w' base v n l := by
  refine h.other fun g hg => ?_
  rcases h.2 with ⟨rfl, _⟩ | ⟨g', cap, cur, rfl, _, hh, _⟩
  · simp [Value.ownBlock] at hg
  · injection hg with hg
    simp at hg
    subst hg
    exact b.block _ (Array.getElem?_eq_some_iff.1 hh).1

set_option maxRecDepth 100000 in
set_option maxHeartbeats 4000000 in
theorem rshuffle_no (A : Option Addr) (n c : Nat) (s : ByteArray) (limit : Int) (w : World) (HT : Hid (Calls Try.prog 21 #[.string s, .slice A n c] w fun e w' => e = .returned (.int .i64 (-1)) ∧ w = w')) :
    Calls Try.prog 16 #[.string s, .slice A n c, .int .i64 limit] w fun e w' => e = .returned (.tuple #[.slice A n c, .bool false, .int .i64 0]) ∧ w = w' := by
  go_enter Try.func16, Try.ntmps16
  go_wp2_with fail
  refine HT.out.mono ?_
  rintro e w1 ⟨rfl, rfl⟩
  go_wp2_with fail
  go_ret3
  exact ⟨rfl, rfl⟩

set_option maxRecDepth 100000 in
set_option maxHeartbeats 4000000 in
theorem rshuffle_under (A : Option Addr) (n c : Nat) (t : Int) (s : ByteArray) (limit : Int) (w : World) (ht : (n : Int) < t) (HT : Hid (Calls Try.prog 21 #[.string s, .slice A n c] w fun e w' => e = .returned (.int .i64 t) ∧ w = w')) :
    Calls Try.prog 16 #[.string s, .slice A n c, .int .i64 limit] w fun e w' => e = .returned (.tuple #[.slice A n c, .bool true, .int .i64 (-4)]) ∧ w = w' := by
  have h0 : decide (t < 0) = false := by simp; omega
  go_enter Try.func16, Try.ntmps16
  go_wp2_with fail
  refine HT.out.mono ?_
  rintro e w1 ⟨rfl, rfl⟩
  go_wp2_with fail
  go_ret3
  exact ⟨rfl, rfl⟩

/-- What the document's Shuffle answers, where there are cells enough. -/
def RAns (A : Option Addr) (n c : Nat) (limit : Int) (O : List Int) (w : World) (e : Ending) (w' : World) : Prop := ∃ B m d, e = .returned (.tuple #[.slice B m d, .bool true, .int .i64 (codeR (.out O) limit)]) ∧ (limit < (O.length : Int) → B = A ∧ m = n ∧ d = c) ∧ (¬ limit < (O.length : Int) → Row w' B m d O) ∧ Below w.heap.size w w'
/-- What left answers. -/
def Lefts (x : List Int) (w : World) (e : Ending) (w' : World) : Prop := ∃ B m d, e = .returned (.slice B m d) ∧ Row w' B m d x ∧ Below w.heap.size w w'

set_option maxRecDepth 100000 in
set_option maxHeartbeats 8000000 in
theorem rshuffle_core (A R : Option Addr) (low t c q : Nat) (s : ByteArray) (limit : Int) (L X : List Int) (w : World) (hn : low + t ≤ 60000) (hc : (low : Int) + (t : Int) ≤ (c : Int)) (hcm : (c : Int) ≤ 9223372036854775807) (hX : X.length ≤ 60002)
    (HT : Hid (Calls Try.prog 21 #[.string s, .slice A (low + t) c] w fun e w' => e = .returned (.int .i64 (t : Int)) ∧ w = w'))
    (HL : Hid (Row w A low c L))
    (hsl : ∀ w, (Instr.slice 22 (.slice A (low + t) c) (some (.int .i64 (low : Int))) none none).run Try.prog w = .ok (.slice R t q) w)
    (HF : Hid (∀ W, Since w W → Calls Try.prog 22 #[.string s, .slice R t q, .int .i64 ((low : Int) + (t : Int))] W (Lefts X W))) :
    Calls Try.prog 16 #[.string s, .slice A (low + t) c, .int .i64 limit] w (RAns A (low + t) c limit (L ++ X) w) := by
  have h0 : decide ((t : Int) < 0) = false := by simp
  have h1 : decide (low + t < t) = false := by simp
  have h2 : decide ((low : Int) + (t : Int) < (t : Int)) = false := by simp; omega
  have h3 : (low : Int) ≤ (c : Int) := by omega
  have hw : IntKind.i64.wrap (low : Int) = (low : Int) := IntWalk.i64_in _ (by omega)
  have SD : Hid (∀ a, Since w a → Since w a.drew) := Lib.hid fun a h => h.drew
  have HX := Lib.hid hX
  have HLL : Hid (L.length = low) := HL.out.1
  clear hX
  go_enter Try.func16, Try.ntmps16
  go_wp2_with fail
  refine HT.out.mono ?_
  rintro e w1 ⟨rfl, rfl⟩
  go_wp2_with fail
  refine wp_region_noPanic ?_
  go_region_held3 (fun a => Since w a) (first | assumption | exact SD.out _ (Below.refl _ _) | exact below_ad _ _)
    (first
      | (go_at_call 22; have s4 : Since w _ := (by assumption); ((with_reducible refine (HF.out _ s4).mono ?_); rintro e w5 ⟨B, m, d, rfl, hr, b5⟩; have s5 := s4.then b5; have HR5 := Lib.hid hr; have HO5 := Lib.hid (HO.out.keep b5); clear hr s4 b5))
      | (have s4 : Since w _ := (by assumption); (refine step_app rfl _ _ rfl w.heap.size (.slice (some ⟨w.heap.size, 0, none⟩) 0 0) 0 [] rfl (none_owns w) A low c L rfl (HL.out.keep s4.bel) (by omega) s4.bel.size w s4.bel (Nat.le_refl _) ?_); intro v1 w2 ho b1; have s5 : Since w w2 := b1; have HO := Lib.hid ho; clear ho b1 s4)
      | (refine step_app rfl _ _ rfl w.heap.size v1 (0 + low) ([] ++ L) rfl HO5.out B m d X rfl HR5.out (by have := HR5.out.1; have := HX.out; omega) s5.bel.size w s5.bel (Nat.le_refl _) ?_; intro v2 w6 ho b2; have s6 : Since w w6 := b2; (obtain ⟨B2, d2, hv, hr⟩ := ho.row); have HO2 := Lib.hid hr; have HV := Lib.hid hv; clear ho hr hv b2))
  all_goals (refine NoPanic.normal ?_)
  have z := HV.out
  subst z
  have HO3 : Hid (Row w6 B2 (low + m) d2 (L ++ X)) := by
    have z := HO2.out
    rw [Nat.zero_add, List.nil_append] at z
    exact z
  have hm : X.length = m := HR5.out.1
  have hll : (L ++ X).length = low + m := by have := HLL.out; simp [this, hm]
  have HM := Lib.hid hll
  have HS6 := Lib.hid s6
  clear hm hll HV s6 s5
  by_cases hlim : limit < (low : Int) + (m : Int)
  · have e : codeR (.out (L ++ X)) limit = -3 := by simp only [codeR]; rw [if_pos (by rw [HM.out]; omega)]
    have E := Lib.hid e
    clear e
    have HH := Lib.hid hlim
    have HR : Hid (limit < ((L ++ X).length : Int)) := by show _ < _; rw [HM.out]; omega
    go_wp2
    go_ret3
    exact ⟨_, _, _, (by first | (rw [E.out]; done) | (rw [E.out]; rfl)), fun _ => ⟨rfl, rfl, rfl⟩, fun h => absurd HR.out h, HS6.out⟩
  · have e : codeR (.out (L ++ X)) limit = 0 := by simp only [codeR]; rw [if_neg (by rw [HM.out]; omega)]
    have E := Lib.hid e
    clear e
    have hlim' : decide (limit < (low : Int) + (m : Int)) = false := by simp; omega
    have HH : Hid (¬ limit < ((L ++ X).length : Int)) := by show ¬ _ < _; rw [HM.out]; omega
    clear hlim
    go_wp2
    go_ret3
    exact ⟨_, _, _, (by first | (rw [E.out]; done) | (rw [E.out]; rfl)), fun h => absurd h (by have := HH.out; omega), fun _ => HO3.out, HS6.out⟩
end Go.Proofs.Ytjeapcpicagobaa
