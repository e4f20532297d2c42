/- A contract of turned of package stk, at each name. -/
import Derived.Test.YtjeapcpicagobaaStkSpec
import Derived.Test.YtjeapcpicagobaaStkF
namespace Go.Proofs.Ytjeapcpicagobaa
open Go.RowKit
set_option linter.unusedVariables false
set_option linter.unusedSimpArgs false

/-- What turned answers. -/
def Ans (z : Bool) (code : Int) (o : List Int) (w : World) (e : Ending) (w' : World) : Prop := ∃ B m d, e = .returned (.tuple #[.slice B m d, .bool z, .int .i64 code]) ∧ (code = 0 → z = true → Row w' B m d o) ∧ Below w.heap.size w w'
/-- What the functions that it calls answer. -/
def Got (code : Int) (o : List Int) (w : World) (e : Ending) (w' : World) : Prop := ∃ B m d, e = .returned (.tuple #[.slice B m d, .int .i64 code]) ∧ Hid (code = 0 → Row w' B m d o) ∧ Below w.heap.size w w'

set_option maxRecDepth 100000 in
set_option maxHeartbeats 4000000 in
theorem turned_text (A : Option Addr) (n c j : Nat) (s t : ByteArray) (code : Int) (o : List Int) (w : World) (hf : Instr.findNow .string (.string s) textsE.toList 0 = some (some (j, .string t)))
    (HC : Hid (∀ w1, Below w.heap.size w w1 → Calls Try.prog 24 #[.string t, .slice A n c] w1 (Got code o w1))) :
    Calls Try.prog 20 #[.string s, .slice A n c] w (Ans true code o w) := by
  have HF := Lib.hid hf
  clear hf
  go_enter Try.func20, Try.ntmps20
  go_wp2_with fail
  refine (texts_any _).mono ?_
  rintro e w1 ⟨rfl, hm, b1⟩
  have hl := run_look hm s HF.out
  have B1 := Lib.hid b1
  clear hm b1
  go_wp2_with fail
  refine (HC.out _ B1.out).mono ?_
  rintro e w2 ⟨B, m, d, rfl, hr, b2⟩
  go_wp2_with fail
  go_ret3
  exact ⟨_, _, _, rfl, fun h _ => hr.out h, below_then B1.out b2⟩

set_option maxRecDepth 100000 in
set_option maxHeartbeats 4000000 in
theorem turned_qDUP (A : Option Addr) (n c : Nat) (code : Int) (o : List Int) (w : World)
    (HC : Hid (∀ w1, Below w.heap.size w w1 → Calls Try.prog 25 #[.slice A n c] w1 (Got code o w1))) :
    Calls Try.prog 20 #[.string ⟨#[63, 68, 85, 80]⟩, .slice A n c] w (Ans true code o w) := by
  go_enter Try.func20, Try.ntmps20
  go_wp2_with fail
  refine (texts_any _).mono ?_
  rintro e w1 ⟨rfl, hm, b1⟩
  have hl := run_look hm ⟨#[63, 68, 85, 80]⟩ (r := none) (by kernel_rfl)
  have B1 := Lib.hid b1
  clear hm b1
  go_wp2_with fail
  refine (HC.out _ B1.out).mono ?_
  rintro e w2 ⟨B, m, d, rfl, hr, b2⟩
  go_wp2_with fail
  go_ret3
  exact ⟨_, _, _, rfl, fun h _ => hr.out h, below_then B1.out b2⟩

set_option maxRecDepth 100000 in
set_option maxHeartbeats 4000000 in
theorem turned_PICK (A : Option Addr) (n c : Nat) (code : Int) (o : List Int) (w : World)
    (HC : Hid (∀ w1, Below w.heap.size w w1 → Calls Try.prog 26 #[.slice A n c] w1 (Got code o w1))) :
    Calls Try.prog 20 #[.string ⟨#[80, 73, 67, 75]⟩, .slice A n c] w (Ans true code o w) := by
  go_enter Try.func20, Try.ntmps20
  go_wp2_with fail
  refine (texts_any _).mono ?_
  rintro e w1 ⟨rfl, hm, b1⟩
  have hl := run_look hm ⟨#[80, 73, 67, 75]⟩ (r := none) (by kernel_rfl)
  have B1 := Lib.hid b1
  clear hm b1
  go_wp2_with fail
  refine (HC.out _ B1.out).mono ?_
  rintro e w2 ⟨B, m, d, rfl, hr, b2⟩
  go_wp2_with fail
  go_ret3
  exact ⟨_, _, _, rfl, fun h _ => hr.out h, below_then B1.out b2⟩

set_option maxRecDepth 100000 in
set_option maxHeartbeats 4000000 in
theorem turned_ROLL (A : Option Addr) (n c : Nat) (code : Int) (o : List Int) (w : World)
    (HC : Hid (∀ w1, Below w.heap.size w w1 → Calls Try.prog 27 #[.slice A n c] w1 (Got code o w1))) :
    Calls Try.prog 20 #[.string ⟨#[82, 79, 76, 76]⟩, .slice A n c] w (Ans true code o w) := by
  go_enter Try.func20, Try.ntmps20
  go_wp2_with fail
  refine (texts_any _).mono ?_
  rintro e w1 ⟨rfl, hm, b1⟩
  have hl := run_look hm ⟨#[82, 79, 76, 76]⟩ (r := none) (by kernel_rfl)
  have B1 := Lib.hid b1
  clear hm b1
  go_wp2_with fail
  refine (HC.out _ B1.out).mono ?_
  rintro e w2 ⟨B, m, d, rfl, hr, b2⟩
  go_wp2_with fail
  go_ret3
  exact ⟨_, _, _, rfl, fun h _ => hr.out h, below_then B1.out b2⟩

set_option maxRecDepth 100000 in
set_option maxHeartbeats 4000000 in
theorem turned_DEPTH (A : Option Addr) (n c : Nat) (l : List Int) (w : World) (hn : n ≤ 65536) (HR : Hid (Row w A n c l)) :
    Calls Try.prog 20 #[.string ⟨#[68, 69, 80, 84, 72]⟩, .slice A n c] w (Ans true 0 (l ++ [(n : Int)]) w) := by
  go_enter Try.func20, Try.ntmps20
  go_wp2_with fail
  refine (texts_any _).mono ?_
  rintro e w1 ⟨rfl, hm, b1⟩
  have hl := run_look hm ⟨#[68, 69, 80, 84, 72]⟩ (r := none) (by kernel_rfl)
  have B1 := Lib.hid b1
  clear hm b1
  go_wp2_with fail
  refine (with_any _ _ _ _ _ _ hn (Lib.hid (HR.out.keep B1.out))).mono ?_
  rintro e w2 ⟨g, rfl, ho, b2⟩
  have HO := Lib.hid ho.row
  clear ho
  go_wp2_with fail
  go_ret3
  obtain ⟨B, d, e, hr⟩ := HO.out
  injection e with e1 e2 e3
  subst e1 e3
  exact ⟨_, _, _, rfl, fun _ _ => hr, below_then B1.out b2⟩

theorem bytes_ne {s : ByteArray} {l : List UInt8} (h : ¬ s.data.toList = l) : ¬ Value.string ⟨l.toArray⟩ = Value.string s := fun e => by
  injection e with e
  exact h (by rw [← e])
theorem str_no {s : ByteArray} {l : List UInt8} (h : ¬ s.data.toList = l) : (s.toList == l) = false := by rw [ByteArray.toList_eq]; simpa using h

theorem keys_all : ∀ x ∈ textsE.toList, MapKept.IsKey .string x.key := by
  intro x hx
  have h : x ∈ textsT.zipIdx.map fun p => (⟨.string p.1.1, .string p.1.2, p.2⟩ : MapEntry) := by simpa [textsE] using hx
  rw [List.mem_map] at h
  obtain ⟨p, _, rfl⟩ := h
  simp [MapKept.IsKey]
theorem find_no (s : ByteArray) (e0 : ¬ s.data.toList = [68, 85, 80]) (e1 : ¬ s.data.toList = [68, 82, 79, 80]) (e2 : ¬ s.data.toList = [83, 87, 65, 80]) (e3 : ¬ s.data.toList = [79, 86, 69, 82]) (e4 : ¬ s.data.toList = [78, 73, 80]) (e5 : ¬ s.data.toList = [84, 85, 67, 75]) (e6 : ¬ s.data.toList = [82, 79, 84]) (e7 : ¬ s.data.toList = [45, 82, 79, 84]) (e8 : ¬ s.data.toList = [50, 68, 85, 80]) (e9 : ¬ s.data.toList = [50, 68, 82, 79, 80]) (e10 : ¬ s.data.toList = [50, 83, 87, 65, 80]) (e11 : ¬ s.data.toList = [50, 79, 86, 69, 82]) (e12 : ¬ s.data.toList = [63, 68, 85, 80]) (e13 : ¬ s.data.toList = [68, 69, 80, 84, 72]) (e14 : ¬ s.data.toList = [80, 73, 67, 75]) (e15 : ¬ s.data.toList = [82, 79, 76, 76]) : Instr.findNow .string (.string s) textsE.toList 0 = some none := by
  rcases MapKept.findNow_spec (d := .string) (k := .string s) (by simp [MapKept.IsKey]) textsE.toList 0 keys_all with ⟨h, _⟩ | ⟨j, e, _, h2, h3⟩
  · exact h
  · exfalso
    have hm : e ∈ textsE.toList := List.mem_of_getElem? h2
    have hx : ∃ p ∈ textsT, Value.string p.1 = .string s := by
      have : e.key ∈ textsE.toList.map (·.key) := List.mem_map.2 ⟨e, hm, rfl⟩
      rw [show textsE.toList.map (·.key) = textsT.map (fun p => Value.string p.1) by rfl, List.mem_map] at this
      obtain ⟨p, hp, hk⟩ := this
      exact ⟨p, hp, by rw [hk, h3]⟩
    obtain ⟨p, hp, hk⟩ := hx
    simp only [textsT, List.mem_cons, List.not_mem_nil, or_false] at hp
    rcases hp with rfl | rfl | rfl | rfl | rfl | rfl | rfl | rfl | rfl | rfl | rfl | rfl
    · exact bytes_ne e0 hk
    · exact bytes_ne e1 hk
    · exact bytes_ne e2 hk
    · exact bytes_ne e3 hk
    · exact bytes_ne e4 hk
    · exact bytes_ne e5 hk
    · exact bytes_ne e6 hk
    · exact bytes_ne e7 hk
    · exact bytes_ne e8 hk
    · exact bytes_ne e9 hk
    · exact bytes_ne e10 hk
    · exact bytes_ne e11 hk

set_option maxRecDepth 100000 in
set_option maxHeartbeats 4000000 in
theorem turned_no (A : Option Addr) (n c : Nat) (s : ByteArray) (o : List Int) (w : World) (e0 : ¬ s.data.toList = [68, 85, 80]) (e1 : ¬ s.data.toList = [68, 82, 79, 80]) (e2 : ¬ s.data.toList = [83, 87, 65, 80]) (e3 : ¬ s.data.toList = [79, 86, 69, 82]) (e4 : ¬ s.data.toList = [78, 73, 80]) (e5 : ¬ s.data.toList = [84, 85, 67, 75]) (e6 : ¬ s.data.toList = [82, 79, 84]) (e7 : ¬ s.data.toList = [45, 82, 79, 84]) (e8 : ¬ s.data.toList = [50, 68, 85, 80]) (e9 : ¬ s.data.toList = [50, 68, 82, 79, 80]) (e10 : ¬ s.data.toList = [50, 83, 87, 65, 80]) (e11 : ¬ s.data.toList = [50, 79, 86, 69, 82]) (e12 : ¬ s.data.toList = [63, 68, 85, 80]) (e13 : ¬ s.data.toList = [68, 69, 80, 84, 72]) (e14 : ¬ s.data.toList = [80, 73, 67, 75]) (e15 : ¬ s.data.toList = [82, 79, 76, 76]) :
    Calls Try.prog 20 #[.string s, .slice A n c] w (Ans false 0 o w) := by
  have HF := Lib.hid (find_no s e0 e1 e2 e3 e4 e5 e6 e7 e8 e9 e10 e11 e12 e13 e14 e15)
  have f12 := str_no e12
  have f13 := str_no e13
  have f14 := str_no e14
  have f15 := str_no e15
  clear e0 e1 e2 e3 e4 e5 e6 e7 e8 e9 e10 e11 e12 e13 e14 e15
  go_enter Try.func20, Try.ntmps20
  go_wp2_with fail
  refine (texts_any _).mono ?_
  rintro e w1 ⟨rfl, hm, b1⟩
  have hl := run_look hm s HF.out
  have B1 := Lib.hid b1
  clear hm b1
  go_wp2_with fail
  go_ret3
  exact ⟨_, _, _, rfl, (fun _ h => by cases h), B1.out⟩
end Go.Proofs.Ytjeapcpicagobaa
