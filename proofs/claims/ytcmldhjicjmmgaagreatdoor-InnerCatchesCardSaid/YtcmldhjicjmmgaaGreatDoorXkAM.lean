/- Part 13. -/
import Derived.Test.YtcmldhjicjmmgaaGreatDoorXkAL
set_option linter.unusedVariables false
set_option linter.unusedSimpArgs false
set_option maxRecDepth 100000
set_option maxHeartbeats 4000000

namespace Go.Proofs.YtcmldhjicjmmgaaGreatDoor
open Go.RowKit


inductive Kind where
  | perm (k : Nat) (idx : List Nat)
  | qdup
  | depth
  | pick
  | roll
  | none
def kindF (s : List UInt8) : Kind :=
  if s = [68,85,80] then .perm 1 [0,0] else
  if s = [68,82,79,80] then .perm 1 [] else
  if s = [83,87,65,80] then .perm 2 [1,0] else
  if s = [79,86,69,82] then .perm 2 [0,1,0] else
  if s = [78,73,80] then .perm 2 [1] else
  if s = [84,85,67,75] then .perm 2 [1,0,1] else
  if s = [82,79,84] then .perm 3 [1,2,0] else
  if s = [45,82,79,84] then .perm 3 [2,0,1] else
  if s = [50,68,85,80] then .perm 2 [0,1,0,1] else
  if s = [50,68,82,79,80] then .perm 2 [] else
  if s = [50,83,87,65,80] then .perm 4 [2,3,0,1] else
  if s = [50,79,86,69,82] then .perm 4 [0,1,2,3,0,1] else
  if s = [63,68,85,80] then .qdup else
  if s = [68,69,80,84,72] then .depth else
  if s = [80,73,67,75] then .pick else
  if s = [82,79,76,76] then .roll else
  .none
inductive Res where
  | no
  | under
  | out (l : List Int)
def topF (l : List Int) : Int:=l.getD (l.length - 1) 0
def numOk (l : List Int) : Bool:=decide (0 < l.length ∧ 0 ≤ topF l ∧ topF l < (l.length : Int) - 1)
def placeF (l : List Int) : Nat:=l.length - 2 - (topF l).toNat
def resF (k : Kind) (l : List Int) : Res :=
  match k with
  | .perm k idx => if l.length < k then .under else .out (leftL l (l.length - k) idx)
  | .qdup => if l.length = 0 then .under else .out (if topF l = 0 then l else l ++ [topF l])
  | .depth => .out (l ++ [(l.length : Int)])
  | .pick => if numOk l = true then .out (l.take (l.length - 1) ++ [l.getD (placeF l) 0]) else .under
  | .roll => if numOk l = true then .out ((l.take (placeF l) ++ (l.take (l.length - 1)).drop (placeF l + 1)) ++ [l.getD (placeF l) 0]) else .under
  | .none => .no
def knownR : Res → Bool
  | .no => false
  | .under => true
  | .out _ => true
def codeR (r : Res) (limit : Int) : Int :=
  match r with
  | .no => 0
  | .under => -4
  | .out o => if limit < (o.length : Int) then -3 else 0
def listR (r : Res) (l : List Int) (limit : Int) : List Int :=
  match r with
  | .no => l
  | .under => l
  | .out o => if limit < (o.length : Int) then l else o
theorem num_cases (l : List Int) : (l = [] ∧ numOk l = false) ∨ (∃ k,l.length = k + 1 ∧ (l.getD k 0 < 0 ∨ (k : Int) ≤ l.getD k 0) ∧ numOk l = false) ∨ (∃ p y,l.length = p + 1 + y + 1 ∧ l.getD (p + 1 + y) 0 = (y : Int) ∧ numOk l = true ∧ placeF l = p):=by
  rcases Nat.eq_zero_or_pos l.length with h | h
  · exact .inl ⟨List.eq_nil_of_length_eq_zero h,by simp [numOk,h]⟩
  · right
    obtain ⟨k,hk⟩ : ∃ k,l.length = k + 1:=⟨l.length - 1,by omega⟩;have ht : topF l = l.getD k 0:=by simp only [topF]; rw [hk]; rfl
    by_cases hy : l.getD k 0 < 0 ∨ (k : Int) ≤ l.getD k 0
    · refine .inl ⟨k,hk,hy,?_⟩
      simp only [numOk,ht,hk,decide_eq_false_iff_not];omega
    · obtain ⟨y,hyy⟩:=Int.eq_ofNat_of_zero_le (by omega : 0 ≤ l.getD k 0)
      obtain ⟨p,hp⟩ : ∃ p,k = p + 1 + y:=⟨k - 1 - y,by omega⟩;refine .inr ⟨p,y,by omega,by rw [← hp,hyy],?_,?_⟩
      · simp only [numOk,ht,hk,decide_eq_true_eq]
        omega
      · simp only [placeF,ht,hk,hyy,Int.toNat_natCast]
        omega
theorem name_cases (s : ByteArray) {P : ByteArray → Prop}
    (h0 : P ⟨#[68,85,80]⟩)
    (h1 : P ⟨#[68,82,79,80]⟩)
    (h2 : P ⟨#[83,87,65,80]⟩)
    (h3 : P ⟨#[79,86,69,82]⟩)
    (h4 : P ⟨#[78,73,80]⟩)
    (h5 : P ⟨#[84,85,67,75]⟩)
    (h6 : P ⟨#[82,79,84]⟩)
    (h7 : P ⟨#[45,82,79,84]⟩)
    (h8 : P ⟨#[50,68,85,80]⟩)
    (h9 : P ⟨#[50,68,82,79,80]⟩)
    (h10 : P ⟨#[50,83,87,65,80]⟩)
    (h11 : P ⟨#[50,79,86,69,82]⟩)
    (h12 : P ⟨#[63,68,85,80]⟩)
    (h13 : P ⟨#[68,69,80,84,72]⟩)
    (h14 : P ⟨#[80,73,67,75]⟩)
    (h15 : P ⟨#[82,79,76,76]⟩)
    (hn : ¬ s.data.toList = [68,85,80] → ¬ s.data.toList = [68,82,79,80] → ¬ s.data.toList = [83,87,65,80] → ¬ s.data.toList = [79,86,69,82] → ¬ s.data.toList = [78,73,80] → ¬ s.data.toList = [84,85,67,75] → ¬ s.data.toList = [82,79,84] → ¬ s.data.toList = [45,82,79,84] → ¬ s.data.toList = [50,68,85,80] → ¬ s.data.toList = [50,68,82,79,80] → ¬ s.data.toList = [50,83,87,65,80] → ¬ s.data.toList = [50,79,86,69,82] → ¬ s.data.toList = [63,68,85,80] → ¬ s.data.toList = [68,69,80,84,72] → ¬ s.data.toList = [80,73,67,75] → ¬ s.data.toList = [82,79,76,76] → P s) : P s:=by
  by_cases e0 : s.data.toList = [68,85,80]
  · obtain rfl : s = ⟨#[68,85,80]⟩:=Go.WideShapes.bytes_inj (by rw [e0])
    exact h0
  by_cases e1 : s.data.toList = [68,82,79,80]
  · obtain rfl : s = ⟨#[68,82,79,80]⟩:=Go.WideShapes.bytes_inj (by rw [e1])
    exact h1
  by_cases e2 : s.data.toList = [83,87,65,80]
  · obtain rfl : s = ⟨#[83,87,65,80]⟩:=Go.WideShapes.bytes_inj (by rw [e2])
    exact h2
  by_cases e3 : s.data.toList = [79,86,69,82]
  · obtain rfl : s = ⟨#[79,86,69,82]⟩:=Go.WideShapes.bytes_inj (by rw [e3])
    exact h3
  by_cases e4 : s.data.toList = [78,73,80]
  · obtain rfl : s = ⟨#[78,73,80]⟩:=Go.WideShapes.bytes_inj (by rw [e4])
    exact h4
  by_cases e5 : s.data.toList = [84,85,67,75]
  · obtain rfl : s = ⟨#[84,85,67,75]⟩:=Go.WideShapes.bytes_inj (by rw [e5])
    exact h5
  by_cases e6 : s.data.toList = [82,79,84]
  · obtain rfl : s = ⟨#[82,79,84]⟩:=Go.WideShapes.bytes_inj (by rw [e6])
    exact h6
  by_cases e7 : s.data.toList = [45,82,79,84]
  · obtain rfl : s = ⟨#[45,82,79,84]⟩:=Go.WideShapes.bytes_inj (by rw [e7])
    exact h7
  by_cases e8 : s.data.toList = [50,68,85,80]
  · obtain rfl : s = ⟨#[50,68,85,80]⟩:=Go.WideShapes.bytes_inj (by rw [e8])
    exact h8
  by_cases e9 : s.data.toList = [50,68,82,79,80]
  · obtain rfl : s = ⟨#[50,68,82,79,80]⟩:=Go.WideShapes.bytes_inj (by rw [e9])
    exact h9
  by_cases e10 : s.data.toList = [50,83,87,65,80]
  · obtain rfl : s = ⟨#[50,83,87,65,80]⟩:=Go.WideShapes.bytes_inj (by rw [e10])
    exact h10
  by_cases e11 : s.data.toList = [50,79,86,69,82]
  · obtain rfl : s = ⟨#[50,79,86,69,82]⟩:=Go.WideShapes.bytes_inj (by rw [e11])
    exact h11
  by_cases e12 : s.data.toList = [63,68,85,80]
  · obtain rfl : s = ⟨#[63,68,85,80]⟩:=Go.WideShapes.bytes_inj (by rw [e12])
    exact h12
  by_cases e13 : s.data.toList = [68,69,80,84,72]
  · obtain rfl : s = ⟨#[68,69,80,84,72]⟩:=Go.WideShapes.bytes_inj (by rw [e13])
    exact h13
  by_cases e14 : s.data.toList = [80,73,67,75]
  · obtain rfl : s = ⟨#[80,73,67,75]⟩:=Go.WideShapes.bytes_inj (by rw [e14])
    exact h14
  by_cases e15 : s.data.toList = [82,79,76,76]
  · obtain rfl : s = ⟨#[82,79,76,76]⟩:=Go.WideShapes.bytes_inj (by rw [e15])
    exact h15
  exact hn e0 e1 e2 e3 e4 e5 e6 e7 e8 e9 e10 e11 e12 e13 e14 e15
theorem kind_DUP : kindF (⟨#[68,85,80]⟩ : ByteArray).data.toList = .perm 1 [0,0]:=by rfl
theorem kind_DROP : kindF (⟨#[68,82,79,80]⟩ : ByteArray).data.toList = .perm 1 []:=by rfl
theorem kind_SWAP : kindF (⟨#[83,87,65,80]⟩ : ByteArray).data.toList = .perm 2 [1,0]:=by rfl
theorem kind_OVER : kindF (⟨#[79,86,69,82]⟩ : ByteArray).data.toList = .perm 2 [0,1,0]:=by rfl
theorem kind_NIP : kindF (⟨#[78,73,80]⟩ : ByteArray).data.toList = .perm 2 [1]:=by rfl
theorem kind_TUCK : kindF (⟨#[84,85,67,75]⟩ : ByteArray).data.toList = .perm 2 [1,0,1]:=by rfl
theorem kind_ROT : kindF (⟨#[82,79,84]⟩ : ByteArray).data.toList = .perm 3 [1,2,0]:=by rfl
theorem kind_mROT : kindF (⟨#[45,82,79,84]⟩ : ByteArray).data.toList = .perm 3 [2,0,1]:=by rfl
theorem kind_2DUP : kindF (⟨#[50,68,85,80]⟩ : ByteArray).data.toList = .perm 2 [0,1,0,1]:=by rfl
theorem kind_2DROP : kindF (⟨#[50,68,82,79,80]⟩ : ByteArray).data.toList = .perm 2 []:=by rfl
theorem kind_2SWAP : kindF (⟨#[50,83,87,65,80]⟩ : ByteArray).data.toList = .perm 4 [2,3,0,1]:=by rfl
theorem kind_2OVER : kindF (⟨#[50,79,86,69,82]⟩ : ByteArray).data.toList = .perm 4 [0,1,2,3,0,1]:=by rfl
theorem kind_qDUP : kindF (⟨#[63,68,85,80]⟩ : ByteArray).data.toList = .qdup:=by rfl
theorem kind_DEPTH : kindF (⟨#[68,69,80,84,72]⟩ : ByteArray).data.toList = .depth:=by rfl
theorem kind_PICK : kindF (⟨#[80,73,67,75]⟩ : ByteArray).data.toList = .pick:=by rfl
theorem kind_ROLL : kindF (⟨#[82,79,76,76]⟩ : ByteArray).data.toList = .roll:=by rfl
theorem kind_other (s : List UInt8) (e0 : ¬ s = [68,85,80]) (e1 : ¬ s = [68,82,79,80]) (e2 : ¬ s = [83,87,65,80]) (e3 : ¬ s = [79,86,69,82]) (e4 : ¬ s = [78,73,80]) (e5 : ¬ s = [84,85,67,75]) (e6 : ¬ s = [82,79,84]) (e7 : ¬ s = [45,82,79,84]) (e8 : ¬ s = [50,68,85,80]) (e9 : ¬ s = [50,68,82,79,80]) (e10 : ¬ s = [50,83,87,65,80]) (e11 : ¬ s = [50,79,86,69,82]) (e12 : ¬ s = [63,68,85,80]) (e13 : ¬ s = [68,69,80,84,72]) (e14 : ¬ s = [80,73,67,75]) (e15 : ¬ s = [82,79,76,76]) : kindF s = .none:=by
  simp only [kindF,e0,e1,e2,e3,e4,e5,e6,e7,e8,e9,e10,e11,e12,e13,e14,e15,if_false]


theorem pop_none (A : Option Addr) (c : Nat) (w : World) (HR : Hid (Row w A 0 c [])) :
    Calls Tryz.prog 259 #[.slice A 0 c] w fun e w' => ∃ B m d,e = .returned (.tuple #[.int .i64 0,.slice B m d,.int .i64 (-4)]) ∧ Row w' B m d [] ∧ Below w.heap.size w w':=pop_at A 0 c [] w (by omega) HR
theorem pop_one (A : Option Addr) (k c : Nat) (l : List Int) (y : Int) (w : World) (hn : k + 1 ≤ 65536) (HR : Hid (Row w A (k + 1) c l)) (HY : Hid (l.getD k 0 = y)) :
    Calls Tryz.prog 259 #[.slice A (k + 1) c] w fun e w' => ∃ B d,e = .returned (.tuple #[.int .i64 y,.slice B k d,.int .i64 0]) ∧ Row w' B k d (l.take k) ∧ Below w.heap.size w w':=by
  obtain ⟨h1,h2,h3⟩:=pop_some HR.out.1;refine (pop_at A (k + 1) c l w hn HR).mono ?_;rintro e w' ⟨B,m,d,rfl,hr,hb⟩;rw [h2] at hr;have hm : k = m:=by
    have:=hr.1;have hl:=HR.out.1;simp at this;omega
  subst hm;rw [h1,h3,HY.out];exact ⟨_,_,rfl,hr,hb⟩
theorem numbered_none (A : Option Addr) (c : Nat) (w : World) (HR : Hid (Row w A 0 c [])) :
    Calls Tryz.prog 289 #[.slice A 0 c] w fun e w' => e = .returned (.tuple #[.slice none 0 0,.int .i64 0,.int .i64 (-4)]) ∧ Below w.heap.size w w':=by
  go_enter Tryz.func289,Tryz.ntmps289;(go_wp2_with fail);refine (pop_none _ _ _ HR).mono ?_;rintro e w1 ⟨B,m,d,rfl,hr,bb⟩;clear hr;(go_wp2_with fail)
  go_ret3
  exact ⟨rfl,bb⟩
theorem numbered_out (A : Option Addr) (k c : Nat) (l : List Int) (y : Int) (w : World) (hn : k + 1 ≤ 65536) (hy : y < 0 ∨ (k : Int) ≤ y) (HR : Hid (Row w A (k + 1) c l)) (HY : Hid (l.getD k 0 = y)) :
    Calls Tryz.prog 289 #[.slice A (k + 1) c] w fun e w' => e = .returned (.tuple #[.slice none 0 0,.int .i64 0,.int .i64 (-4)]) ∧ Below w.heap.size w w':=by
  by_cases h : y < 0
  · clear hy
    go_enter Tryz.func289,Tryz.ntmps289;(go_wp2_with fail);refine (pop_one _ _ _ _ _ _ hn HR HY).mono ?_;rintro e w1 ⟨B,d,rfl,hr,bb⟩;clear hr;(go_wp2_with fail)
    go_ret3
    exact ⟨rfl,bb⟩
  · have h1 : decide (y < 0) = false:=by simp; omega
    have h2 : (k : Int) ≤ y:=by omega
    clear hy h;go_enter Tryz.func289,Tryz.ntmps289;(go_wp2_with fail);refine (pop_one _ _ _ _ _ _ hn HR HY).mono ?_;rintro e w1 ⟨B,d,rfl,hr,bb⟩;clear hr;(go_wp2_with fail)
    go_ret3
    exact ⟨rfl,bb⟩
theorem numbered_ok (A : Option Addr) (p y c : Nat) (l : List Int) (w : World) (hn : p + y + 2 ≤ 65536) (HR : Hid (Row w A (p + 1 + y + 1) c l)) (HY : Hid (l.getD (p + 1 + y) 0 = (y : Int))) :
    Calls Tryz.prog 289 #[.slice A (p + 1 + y + 1) c] w fun e w' => ∃ B d,e = .returned (.tuple #[.slice B (p + 1 + y) d,.int .i64 (p : Int),.int .i64 0]) ∧ Row w' B (p + 1 + y) d (l.take (p + 1 + y)) ∧ Below w.heap.size w w':=by
  have h1 : decide ((y : Int) < 0) = false:=by simp
  have h2 : decide ((p : Int) + 1 + (y : Int) ≤ (y : Int)) = false:=by simp; omega
  have h3 : (p : Int) + 1 + (y : Int) - 1 - (y : Int) = (p : Int):=by omega
  go_enter Tryz.func289,Tryz.ntmps289;(go_wp2_with fail);refine (pop_one _ _ _ _ _ _ (by omega) HR HY).mono ?_;rintro e w1 ⟨B,d,rfl,hr,bb⟩;have HR1:=zqh hr;clear hr;(go_wp2_with fail)
  go_ret3
  exact ⟨_,_,rfl,HR1.out,bb⟩


theorem picked_none (A : Option Addr) (c : Nat) (w : World) (HR : Hid (Row w A 0 c [])) :
    Calls Tryz.prog 267 #[.slice A 0 c] w fun e w' => e = .returned (.tuple #[.slice none 0 0,.int .i64 (-4)]) ∧ Below w.heap.size w w':=by
  go_enter Tryz.func267,Tryz.ntmps267;(go_wp2_with fail);refine (numbered_none _ _ _ HR).mono ?_;rintro e w1 ⟨rfl,bb⟩;(go_wp2_with fail);go_ret2;exact ⟨rfl,bb⟩
theorem rolled_none (A : Option Addr) (c : Nat) (w : World) (HR : Hid (Row w A 0 c [])) :
    Calls Tryz.prog 268 #[.slice A 0 c] w fun e w' => e = .returned (.tuple #[.slice none 0 0,.int .i64 (-4)]) ∧ Below w.heap.size w w':=by
  go_enter Tryz.func268,Tryz.ntmps268;(go_wp2_with fail);refine (numbered_none _ _ _ HR).mono ?_;rintro e w1 ⟨rfl,bb⟩;(go_wp2_with fail);go_ret2;exact ⟨rfl,bb⟩
theorem picked_out (A : Option Addr) (k c : Nat) (l : List Int) (y : Int) (w : World) (hn : k + 1 ≤ 65536) (hy : y < 0 ∨ (k : Int) ≤ y) (HR : Hid (Row w A (k + 1) c l)) (HY : Hid (l.getD k 0 = y)) :
    Calls Tryz.prog 267 #[.slice A (k + 1) c] w fun e w' => e = .returned (.tuple #[.slice none 0 0,.int .i64 (-4)]) ∧ Below w.heap.size w w':=by
  go_enter Tryz.func267,Tryz.ntmps267;(go_wp2_with fail);refine (numbered_out _ _ _ _ y _ hn hy HR HY).mono ?_;rintro e w1 ⟨rfl,bb⟩;(go_wp2_with fail);go_ret2;exact ⟨rfl,bb⟩
theorem rolled_out (A : Option Addr) (k c : Nat) (l : List Int) (y : Int) (w : World) (hn : k + 1 ≤ 65536) (hy : y < 0 ∨ (k : Int) ≤ y) (HR : Hid (Row w A (k + 1) c l)) (HY : Hid (l.getD k 0 = y)) :
    Calls Tryz.prog 268 #[.slice A (k + 1) c] w fun e w' => e = .returned (.tuple #[.slice none 0 0,.int .i64 (-4)]) ∧ Below w.heap.size w w':=by
  go_enter Tryz.func268,Tryz.ntmps268;(go_wp2_with fail);refine (numbered_out _ _ _ _ y _ hn hy HR HY).mono ?_;rintro e w1 ⟨rfl,bb⟩;(go_wp2_with fail);go_ret2;exact ⟨rfl,bb⟩
theorem take_getD {l : List Int} {k p : Nat} (h : p < k) : (l.take k).getD p 0 = l.getD p 0:=by
  simp [List.getD,List.getElem?_take,h]


theorem bytes_ne {s : ByteArray} {l : List UInt8} (h : ¬ s.data.toList = l) : ¬ Value.string ⟨l.toArray⟩ = Value.string s:=fun e => by
  injection e with e
  exact h (by rw [← e])
theorem str_no {s : ByteArray} {l : List UInt8} (h : ¬ s.data.toList = l) : (s.toList == l) = false:=by rw [ByteArray.toList_eq]; simpa using h
theorem keys_all : ∀ x ∈ textsE.toList,MapKept.IsKey .string x.key:=by
  intro x hx;have h : x ∈ textsT.zipIdx.map fun p => (⟨.string p.1.1,.string p.1.2,p.2⟩ : MapEntry):=by simpa [textsE] using hx
  rw [List.mem_map] at h;obtain ⟨p,_,rfl⟩:=h;simp [MapKept.IsKey]
theorem find_no (s : ByteArray) (e0 : ¬ s.data.toList = [68,85,80]) (e1 : ¬ s.data.toList = [68,82,79,80]) (e2 : ¬ s.data.toList = [83,87,65,80]) (e3 : ¬ s.data.toList = [79,86,69,82]) (e4 : ¬ s.data.toList = [78,73,80]) (e5 : ¬ s.data.toList = [84,85,67,75]) (e6 : ¬ s.data.toList = [82,79,84]) (e7 : ¬ s.data.toList = [45,82,79,84]) (e8 : ¬ s.data.toList = [50,68,85,80]) (e9 : ¬ s.data.toList = [50,68,82,79,80]) (e10 : ¬ s.data.toList = [50,83,87,65,80]) (e11 : ¬ s.data.toList = [50,79,86,69,82]) (e12 : ¬ s.data.toList = [63,68,85,80]) (e13 : ¬ s.data.toList = [68,69,80,84,72]) (e14 : ¬ s.data.toList = [80,73,67,75]) (e15 : ¬ s.data.toList = [82,79,76,76]) : Instr.findNow .string (.string s) textsE.toList 0 = some none:=by
  rcases MapKept.findNow_spec (d:=.string) (k:=.string s) (by simp [MapKept.IsKey]) textsE.toList 0 keys_all with ⟨h,_⟩ | ⟨j,e,_,h2,h3⟩
  · exact h
  · exfalso
    have hm : e ∈ textsE.toList:=List.mem_of_getElem? h2;have hx : ∃ p ∈ textsT,Value.string p.1 = .string s:=by
      have : e.key ∈ textsE.toList.map (·.key):=List.mem_map.2 ⟨e,hm,rfl⟩;rw [show textsE.toList.map (·.key) = textsT.map (fun p => Value.string p.1) by rfl,List.mem_map] at this;obtain ⟨p,hp,hk⟩:=this;exact ⟨p,hp,by rw [hk,h3]⟩
    obtain ⟨p,hp,hk⟩:=hx;simp only [textsT,List.mem_cons,List.not_mem_nil,or_false] at hp
    rcases hp with rfl | rfl | rfl | rfl | rfl | rfl | rfl | rfl | rfl | rfl | rfl | rfl
    · exact bytes_ne e0 hk
    · exact bytes_ne e1 hk
    · exact bytes_ne e2 hk
    · exact bytes_ne e3 hk
    · exact bytes_ne e4 hk
    · exact bytes_ne e5 hk
    · exact bytes_ne e6 hk
    · exact bytes_ne e7 hk
    · exact bytes_ne e8 hk
    · exact bytes_ne e9 hk
    · exact bytes_ne e10 hk
    · exact bytes_ne e11 hk


theorem tells_of (t a b : ByteArray) (k i : Nat) (idx : List Nat) (h1 : Cuts t a b i) (h2 : a.size = k) (h3 : b.data.toList.map (·.toNat) = idx.map (· + 97)) (h4 : idx.length ≤ 10) (h5 : ∀ i ∈ idx,i < k) (h6 : k ≤ 4) : TellsS t a b k idx:=by
  have hl : b.size = idx.length:=by
    have:=congrArg List.length h3;simpa using this
  refine ⟨⟨i,h1⟩,h2,hl,h4,fun j h x hx => ?_,fun j x hx => h5 x (List.mem_of_getElem? hx),h6⟩;have e1 : (b.data.toList.map (·.toNat))[j]? = some (b[j].toNat):=by
    rw [List.getElem?_map];have : b.data.toList[j]? = some b[j]:=by
      rw [Array.getElem?_toList];exact Array.getElem?_eq_getElem h
    rw [this];rfl
  rw [h3,List.getElem?_map,hx] at e1;simpa using e1.symm
def codeT : Res → Int
  | .no => 0
  | .under => -4
  | .out _ => 0
def outT : Res → List Int
  | .no => []
  | .under => []
  | .out o => o
theorem pick_yes {l : List Int} {p y : Nat} (h1 : l.length = p + 1 + y + 1) (h2 : numOk l = true) (h3 : placeF l = p) : resF .pick l = .out (l.take (p + 1 + y) ++ [l.getD p 0]):=by
  simp only [resF,h2,if_true,h3,h1];rfl
theorem roll_yes {l : List Int} {p y : Nat} (h1 : l.length = p + 1 + y + 1) (h2 : numOk l = true) (h3 : placeF l = p) : resF .roll l = .out ((l.take p ++ (l.take (p + 1 + y)).drop (p + 1)) ++ [l.getD p 0]):=by
  simp only [resF,h2,if_true,h3,h1];rfl
theorem pick_no {l : List Int} (h : numOk l = false) : resF .pick l = .under:=by simp [resF,h]
theorem roll_no {l : List Int} (h : numOk l = false) : resF .roll l = .under:=by simp [resF,h]
theorem tells_DUP : TellsS ⟨#[97,32,97,97]⟩ ⟨#[97]⟩ ⟨#[97,97]⟩ 1 [0,0]:=tells_of _ _ _ 1 1 [0,0] ⟨by kernel_rfl,by kernel_rfl,by kernel_rfl,by decide,by decide,by kernel_rfl⟩ rfl rfl (by decide) (by decide) (by decide)
theorem tells_DROP : TellsS ⟨#[97,32]⟩ ⟨#[97]⟩ ⟨#[]⟩ 1 []:=tells_of _ _ _ 1 1 [] ⟨by kernel_rfl,by kernel_rfl,by kernel_rfl,by decide,by decide,by kernel_rfl⟩ rfl rfl (by decide) (by decide) (by decide)
theorem tells_SWAP : TellsS ⟨#[97,98,32,98,97]⟩ ⟨#[97,98]⟩ ⟨#[98,97]⟩ 2 [1,0]:=tells_of _ _ _ 2 2 [1,0] ⟨by kernel_rfl,by kernel_rfl,by kernel_rfl,by decide,by decide,by kernel_rfl⟩ rfl rfl (by decide) (by decide) (by decide)
theorem tells_OVER : TellsS ⟨#[97,98,32,97,98,97]⟩ ⟨#[97,98]⟩ ⟨#[97,98,97]⟩ 2 [0,1,0]:=tells_of _ _ _ 2 2 [0,1,0] ⟨by kernel_rfl,by kernel_rfl,by kernel_rfl,by decide,by decide,by kernel_rfl⟩ rfl rfl (by decide) (by decide) (by decide)
theorem tells_NIP : TellsS ⟨#[97,98,32,98]⟩ ⟨#[97,98]⟩ ⟨#[98]⟩ 2 [1]:=tells_of _ _ _ 2 2 [1] ⟨by kernel_rfl,by kernel_rfl,by kernel_rfl,by decide,by decide,by kernel_rfl⟩ rfl rfl (by decide) (by decide) (by decide)
theorem tells_TUCK : TellsS ⟨#[97,98,32,98,97,98]⟩ ⟨#[97,98]⟩ ⟨#[98,97,98]⟩ 2 [1,0,1]:=tells_of _ _ _ 2 2 [1,0,1] ⟨by kernel_rfl,by kernel_rfl,by kernel_rfl,by decide,by decide,by kernel_rfl⟩ rfl rfl (by decide) (by decide) (by decide)
theorem tells_ROT : TellsS ⟨#[97,98,99,32,98,99,97]⟩ ⟨#[97,98,99]⟩ ⟨#[98,99,97]⟩ 3 [1,2,0]:=tells_of _ _ _ 3 3 [1,2,0] ⟨by kernel_rfl,by kernel_rfl,by kernel_rfl,by decide,by decide,by kernel_rfl⟩ rfl rfl (by decide) (by decide) (by decide)
theorem tells_mROT : TellsS ⟨#[97,98,99,32,99,97,98]⟩ ⟨#[97,98,99]⟩ ⟨#[99,97,98]⟩ 3 [2,0,1]:=tells_of _ _ _ 3 3 [2,0,1] ⟨by kernel_rfl,by kernel_rfl,by kernel_rfl,by decide,by decide,by kernel_rfl⟩ rfl rfl (by decide) (by decide) (by decide)
theorem tells_2DUP : TellsS ⟨#[97,98,32,97,98,97,98]⟩ ⟨#[97,98]⟩ ⟨#[97,98,97,98]⟩ 2 [0,1,0,1]:=tells_of _ _ _ 2 2 [0,1,0,1] ⟨by kernel_rfl,by kernel_rfl,by kernel_rfl,by decide,by decide,by kernel_rfl⟩ rfl rfl (by decide) (by decide) (by decide)
theorem tells_2DROP : TellsS ⟨#[97,98,32]⟩ ⟨#[97,98]⟩ ⟨#[]⟩ 2 []:=tells_of _ _ _ 2 2 [] ⟨by kernel_rfl,by kernel_rfl,by kernel_rfl,by decide,by decide,by kernel_rfl⟩ rfl rfl (by decide) (by decide) (by decide)
theorem tells_2SWAP : TellsS ⟨#[97,98,99,100,32,99,100,97,98]⟩ ⟨#[97,98,99,100]⟩ ⟨#[99,100,97,98]⟩ 4 [2,3,0,1]:=tells_of _ _ _ 4 4 [2,3,0,1] ⟨by kernel_rfl,by kernel_rfl,by kernel_rfl,by decide,by decide,by kernel_rfl⟩ rfl rfl (by decide) (by decide) (by decide)
theorem tells_2OVER : TellsS ⟨#[97,98,99,100,32,97,98,99,100,97,98]⟩ ⟨#[97,98,99,100]⟩ ⟨#[97,98,99,100,97,98]⟩ 4 [0,1,2,3,0,1]:=tells_of _ _ _ 4 4 [0,1,2,3,0,1] ⟨by kernel_rfl,by kernel_rfl,by kernel_rfl,by decide,by decide,by kernel_rfl⟩ rfl rfl (by decide) (by decide) (by decide)


theorem Owns.keep {w w' : World} {base n : Nat} {v : Value} {l : List Int} (h : Owns w base v n l) (b : Below w.heap.size w w') : Owns w' base v n l:=by
  refine h.other fun g hg => ?_
  rcases h.2 with ⟨rfl,_⟩ | ⟨g',cap,cur,rfl,_,hh,_⟩
  · simp [Value.ownBlock] at hg
  · injection hg with hg
    simp at hg;subst hg;exact b.block _ (Array.getElem?_eq_some_iff.1 hh).1


theorem Row.at_ {w : World} {g o n c : Nat} {l : List Int} (h : Row w (some ⟨g,o,none⟩) n c l) (hn : 0 < n) : g < w.heap.size ∧ ∀ j,j < n → w.cell? ⟨g,o + j,none⟩ = some (.int .i64 (l.getD j 0)):=by
  obtain ⟨g',o',e,hg,hc⟩:=h.cells hn;injection e with e
  injection e with e1 e2
  subst e1 e2;exact ⟨hg,hc⟩


theorem Row.len {w : World} {A : Option Addr} {n c : Nat} {l : List Int} (h : Row w A n c l) : l.length = n:=h.1


def NewA (B : Nat) (A' : Option Addr) (n' : Nat) (A : Option Addr) (n : Nat) : Prop:=(A' = A ∧ n' = n) ∨ ∀ q,A' = some q → B ≤ q.block
theorem NewA.refl (B : Nat) (A : Option Addr) (n : Nat) : NewA B A n A n:=.inl ⟨rfl,rfl⟩
theorem NewA.le {B B' n' n : Nat} {A' A : Option Addr} (h : NewA B A' n' A n) (hb : B' ≤ B) : NewA B' A' n' A n:=h.imp (fun x => x) fun h q e => Nat.le_trans hb (h q e)
theorem NewA.trans {B n'' n' n : Nat} {A'' A' A : Option Addr} (h : NewA B A'' n'' A' n') (g : NewA B A' n' A n) : NewA B A'' n'' A n:=by
  rcases h with ⟨rfl,rfl⟩ | h
  · exact g
  · exact .inr h
def MemP (P : Option Addr) (K : Nat) (B : Nat) (w : World) (v : Value) (m : PM) : Prop:=IsMem w v m ∧ ∀ b P' K' d',v = .agg #[b,.slice P' K' d'] → NewA B P' K' P K
theorem MemP.le {P : Option Addr} {K B B' : Nat} {w : World} {v : Value} {m : PM} (h : MemP P K B w v m) (hb : B' ≤ B) : MemP P K B' w v m:=⟨h.1,fun b P' K' d' e => (h.2 b P' K' d' e).le hb⟩
theorem MemP.keep {P : Option Addr} {K B : Nat} {w w' : World} {v : Value} {m : PM} (h : MemP P K B w v m) (b : Below w.heap.size w w') : MemP P K B w' v m:=⟨h.1.keep b,h.2⟩
end Go.Proofs.YtcmldhjicjmmgaaGreatDoor
