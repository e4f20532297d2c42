/- Part 19. -/
import Derived.Test.YtlgnijhemfkflaaGreatDoorPaAA
import Derived.WideShapes
set_option linter.unusedVariables false
set_option linter.unusedSimpArgs false
set_option maxRecDepth 100000
set_option maxHeartbeats 4000000

namespace Go.Proofs.YtlgnijhemfkflaaGreatDoor
open Go.RowKit


def shl (a b : Int) : Int:=if un b ≤ 63 then wrap64 (a * 2 ^ un b) else 0
def shr (a b : Int) : Int:=if un b ≤ 63 then wrap64 ((un a / 2 ^ un b : Nat) : Int) else 0
def tellN (is : Bool) (x y : Int) : Int:=if is = true then x else y
def yes (is : Bool) : Int:=tellN is (-1) 0
def turnedF (l : List UInt8) (a : Int) : Option Int :=
  if l = [65,66,83] then some (if a < 0 then wrap64 (-a) else a) else
  if l = [78,69,71,65,84,69] then some (wrap64 (-a)) else
  if l = [73,78,86,69,82,84] then some (-1 - a) else
  if l = [49,43] then some (wrap64 (a + 1)) else
  if l = [49,45] then some (wrap64 (a - 1)) else
  if l = [67,69,76,76,83] then some (wrap64 (8 * a)) else
  if l = [50,42] then some (wrap64 (a + a)) else
  if l = [50,47] then some (a / 2) else
  if l = [67,69,76,76,43] then some (wrap64 (a + 8)) else
  if l = [65,76,73,71,78,69,68] then some (wrap64 ((a + 7) / 8 * 8)) else
  none
def asked1F (l : List UInt8) (a : Int) : Option Int :=
  if l = [48,60,62] then some (yes (a != 0)) else
  if l = [48,61] then some (yes (a == 0)) else
  if l = [48,60] then some (yes (decide (a < 0))) else
  if l = [48,62] then some (yes (decide (0 < a))) else
  none
def oneF (l : List UInt8) (a : Int) : Option Int:=(turnedF l a).or (asked1F l a)
def divF (l : List UInt8) (a b : Int) : Option Int :=
  if l = [47] then some (dq a b) else
  if l = [77,79,68] then some (dr a b) else
  none
def divC (l : List UInt8) (b : Int) : Int:=if l = [47] ∨ l = [77,79,68] then dc b else 0
def joinedF (l : List UInt8) (a b : Int) : Option Int :=
  if l = [45] then some (wrap64 (a - b)) else
  if l = [43] then some (wrap64 (a + b)) else
  if l = [42] then some (wrap64 (a * b)) else
  if l = [65,78,68] then some (bits .and .i64 a b) else
  if l = [79,82] then some (bits .or .i64 a b) else
  if l = [88,79,82] then some (bits .xor .i64 a b) else
  if l = [76,83,72,73,70,84] then some (shl a b) else
  if l = [82,83,72,73,70,84] then some (shr a b) else
  if l = [77,73,78] then some (if b < a then b else a) else
  if l = [77,65,88] then some (if a < b then b else a) else
  none
def asked2F (l : List UInt8) (a b : Int) : Option Int :=
  if l = [60,62] then some (yes (a != b)) else
  if l = [61] then some (yes (a == b)) else
  if l = [62] then some (yes (decide (b < a))) else
  if l = [60] then some (yes (decide (a < b))) else
  if l = [62,61] then some (yes (decide (b ≤ a))) else
  if l = [60,61] then some (yes (decide (a ≤ b))) else
  if l = [85,62] then some (yes (decide (un b < un a))) else
  if l = [85,60] then some (yes (decide (un a < un b))) else
  none
def twoF (l : List UInt8) (a b : Int) : Option Int:=(divF l a b).or ((joinedF l a b).or (asked2F l a b))
end Go.Proofs.YtlgnijhemfkflaaGreatDoor

namespace Go.Proofs.YtlgnijhemfkflaaGreatDoor
open Go.RowKit


def bv (a : Int) : BitVec 64:=BitVec.ofInt 64 a
theorem bv_un (a : Int) : (bv a).toNat = un a:=by
  have h:=un_mod a;unfold bv;rw [BitVec.toNat_ofInt];omega
theorem wrap_toNat (x : BitVec 64) : wrap64 (x.toNat : Int) = x.toInt:=by
  have:=x.isLt;rw [BitVec.toInt_eq_toNat_cond];unfold wrap64
  split <;> omega
theorem i64_wrap (n : Int) : IntKind.i64.wrap n = wrap64 n:=IntWalk.i64_left n
theorem bits_xor (a b : Int) : bits .xor .i64 a b = (bv a ^^^ bv b).toInt:=by rw [← wrap_toNat,← i64_wrap]; rfl
theorem bits_andNot (a b : Int) : bits .andNot .i64 a b = (bv a &&& ~~~ bv b).toInt:=by rw [← wrap_toNat,← i64_wrap]; rfl
theorem inv_eq (a : Int) (ha : cellR a) : bits .xor .i64 (-1) a = -1 - a:=by
  have e : bv (-1) = BitVec.allOnes 64:=by decide
  rw [bits_xor,e,BitVec.allOnes_xor,← wrap_toNat,BitVec.toNat_not,bv_un];have:=un_mod a;have:=un_lt a;unfold wrap64;unfold cellR at ha;omega
theorem split_and (x m : BitVec 64) : (x &&& m) + (x &&& ~~~ m) = x:=by
  rw [BitVec.add_eq_or_of_and_eq_zero]
  · ext i; simp; cases x[i] <;> cases m[i] <;> rfl
  · ext i; simp; cases x[i] <;> cases m[i] <;> simp
theorem and7 (x : BitVec 64) : (x &&& 7#64).toNat = x.toNat % 8:=by
  rw [BitVec.toNat_and];exact Nat.and_two_pow_sub_one_eq_mod x.toNat 3
theorem aligned_eq (a : Int) (_ha : cellR a) : bits .andNot .i64 (wrap64 (wrap64 (a + 8) - 1)) 7 = wrap64 ((a + 7) / 8 * 8):=by
  rw [bits_andNot,← wrap_toNat];have e : bv 7 = 7#64:=by decide
  rw [e];have h:=split_and (bv (wrap64 (wrap64 (a + 8) - 1))) 7#64;have h7:=and7 (bv (wrap64 (wrap64 (a + 8) - 1)));have h2:=congrArg BitVec.toNat h;rw [BitVec.toNat_add,h7,bv_un] at h2;have h3:=un_mod (wrap64 (wrap64 (a + 8) - 1));have h4:=(bv (wrap64 (wrap64 (a + 8) - 1)) &&& ~~~ 7#64).isLt;generalize (bv (wrap64 (wrap64 (a + 8) - 1)) &&& ~~~ 7#64).toNat = z at *;generalize un (wrap64 (wrap64 (a + 8) - 1)) = u at *;unfold wrap64 at *;omega
theorem sub_eq (a b : Int) : wrap64 (a + wrap64 (-b)) = wrap64 (a - b):=by unfold wrap64; omega
theorem wrap_mod64 {x y : Int} (h : (x - y) % 18446744073709551616 = 0) : wrap64 x = wrap64 y:=by unfold wrap64; omega
theorem shl_eq (a b : Int) : wrap64 (IntKind.u64.wrap (IntKind.u64.wrap a * 2 ^ min (IntKind.u64.wrap b).toNat 64)) = shl a b:=by
  have e : (IntKind.u64.wrap b).toNat = un b:=rfl;rw [e,IntKind.wrap_u64,IntKind.wrap_u64];unfold shl
  split
  · rename_i h
    rw [Nat.min_eq_left (by omega)];refine wrap_mod64 ?_;have h1 : a % 18446744073709551616 * 2 ^ un b = a * 2 ^ un b - 18446744073709551616 * (a / 18446744073709551616 * 2 ^ un b):=by
      rw [Int.emod_def,Int.sub_mul,Int.mul_assoc]
    rw [h1];omega
  · rw [Nat.min_eq_right (by omega),show (2 : Int) ^ 64 = 18446744073709551616 by decide]
    unfold wrap64;omega
theorem shr_eq (a b : Int) : wrap64 (IntKind.u64.wrap a / 2 ^ min (IntKind.u64.wrap b).toNat 64) = shr a b:=by
  have e : (IntKind.u64.wrap b).toNat = un b:=rfl;rw [e,un_cast];unfold shr
  split
  · rename_i h
    rw [Nat.min_eq_left (by omega),Int.natCast_ediv,Int.natCast_pow];rfl
  · have:=un_lt a
    rw [Nat.min_eq_right (by omega),show (2 : Int) ^ 64 = 18446744073709551616 by decide];unfold wrap64;omega
end Go.Proofs.YtlgnijhemfkflaaGreatDoor

namespace Go.Proofs.YtlgnijhemfkflaaGreatDoor
open Go.RowKit


theorem ret_intA {k : IntKind} {a b : Int} (h : a = b) : Ending.returned (.int k a) = .returned (.int k b):=by rw [h]
theorem ret_boolA {a b : Bool} (h : a = b) : Ending.returned (.bool a) = .returned (.bool b):=by rw [h]
theorem ret_threeA {k l m : IntKind} {a b c d e f : Int} (h : a = d) (g : b = e) (i : c = f) : Ending.returned (.tuple #[.int k a,.int l b,.int m c]) = .returned (.tuple #[.int k d,.int l e,.int m f]):=by rw [h,g,i]
theorem ret_ibA {k : IntKind} {a c : Int} {b d : Bool} (h : a = c) (g : b = d) : Ending.returned (.tuple #[.int k a,.bool b]) = .returned (.tuple #[.int k c,.bool d]):=by rw [h,g]
theorem drew_belowA (w : World) (n : Nat) : Below w.heap.size w (w.drewN n):=⟨rfl,rfl,rfl,Nat.le_refl _,fun _ _ => rfl⟩
theorem uless_anyA (a b : Int) (w : World) :
    Calls Tryz.prog 214 #[.int .i64 a,.int .i64 b] w fun e w' => e = .returned (.bool (decide (un a < un b))) ∧ w = w':=by
  go_enter Tryz.func214,Tryz.ntmps214;go_wp2;go_ret;exact ⟨ret_boolA (by rw [un_cast,un_cast]; simp),rfl⟩
theorem leansUp_anyA (a b : Int) (w : World) :
    Calls Tryz.prog 206 #[.int .i64 a,.int .i64 b] w fun e w' => e = .returned (.bool (leans a b)) ∧ w = w':=by
  go_enter Tryz.func206,Tryz.ntmps206;go_wp2
  all_goals go_ret
  · exact ⟨ret_boolA (by subst_vars; simp [leans]),rfl⟩
  · exact ⟨ret_boolA (by simp [leans,bne]),rfl⟩
theorem div_anyA (a b : Int) (w : World) (ha : cellR a) (hb : cellR b) :
    Calls Tryz.prog 85 #[.int .i64 a,.int .i64 b] w fun e w' => e = .returned (.tuple #[.int .i64 (dq a b),.int .i64 (dr a b),.int .i64 (dc b)]) ∧ Below w.heap.size w w':=by
  have HA:=zqh ha;have HB:=zqh hb;clear ha hb
  by_cases h : b = 0
  · have hb0 : (b == 0) = true:=by simp [h]
    have H:=zqh h;clear h;go_enter Tryz.func85,Tryz.ntmps85;go_wp2
    go_ret3
    exact ⟨ret_threeA (by simp [dq,H.out]) (by simp [dr,H.out]) (by simp [dc,H.out]),Below.refl _ _⟩
  · have hb0 : (b == 0) = false:=by simp [h]
    by_cases hl : leans (a.tmod b) b = true
    · go_enter Tryz.func85,Tryz.ntmps85
      go_wp2
      go_quiet (fail)
      (go_wp2_with (go_at_call 206; refine (leansUp_anyA _ _ _).mono ?_; rintro e w' ⟨rfl,rfl⟩))
      go_ret3
      exact ⟨ret_threeA (by simp [dq,h,hl]) (by rw [wrap_in (leans_sum a b h HB.out hl)]; simp [dr,h,hl]) (by simp [dc,h]),drew_belowA _ _⟩
    · replace hl : leans (a.tmod b) b = false:=by simpa using hl
      go_enter Tryz.func85,Tryz.ntmps85;go_wp2
      go_quiet (fail)
      (go_wp2_with (go_at_call 206; refine (leansUp_anyA _ _ _).mono ?_; rintro e w' ⟨rfl,rfl⟩))
      go_ret3
      exact ⟨ret_threeA (by simp [dq,h,hl]) (by simp [dr,h,hl]) (by simp [dc,h]),drew_belowA _ _⟩
end Go.Proofs.YtlgnijhemfkflaaGreatDoor

namespace Go.Proofs.YtlgnijhemfkflaaGreatDoor
open Go.RowKit


theorem str_of {s : ByteArray} {l : List UInt8} (h : s.data.toList = l) : s = ⟨l.toArray⟩:=Go.WideShapes.bytes_inj (by rw [h])
theorem str_noA {s : ByteArray} {l : List UInt8} (h : ¬ s.data.toList = l) : (s.toList == l) = false:=by rw [ByteArray.toList_eq]; simpa using h
theorem turned_ABS (a : Int) (w : World) (ha : cellR a) :
    Calls Tryz.prog 204 #[.string ⟨#[65,66,83]⟩,.int .i64 a] w fun e w' => e = .returned (.tuple #[.int .i64 (if a < 0 then wrap64 (-a) else a),.bool true]) ∧ w = w':=by
  go_enter Tryz.func204,Tryz.ntmps204;go_wp2
  all_goals go_ret2
  all_goals exact ⟨ret_ibA (by first | rfl | (split <;> first | rfl | omega)) rfl,rfl⟩
theorem turned_NEGATE (a : Int) (w : World) (ha : cellR a) :
    Calls Tryz.prog 204 #[.string ⟨#[78,69,71,65,84,69]⟩,.int .i64 a] w fun e w' => e = .returned (.tuple #[.int .i64 (wrap64 (-a)),.bool true]) ∧ w = w':=by
  go_enter Tryz.func204,Tryz.ntmps204;go_wp2
  all_goals go_ret2
  all_goals exact ⟨ret_ibA (by rfl) rfl,rfl⟩
theorem turned_INVERT (a : Int) (w : World) (ha : cellR a) :
    Calls Tryz.prog 204 #[.string ⟨#[73,78,86,69,82,84]⟩,.int .i64 a] w fun e w' => e = .returned (.tuple #[.int .i64 (-1 - a),.bool true]) ∧ w = w':=by
  go_enter Tryz.func204,Tryz.ntmps204;go_wp2
  all_goals go_ret2
  all_goals exact ⟨ret_ibA (by exact inv_eq a ha) rfl,rfl⟩
theorem turned_1Plus (a : Int) (w : World) (ha : cellR a) :
    Calls Tryz.prog 204 #[.string ⟨#[49,43]⟩,.int .i64 a] w fun e w' => e = .returned (.tuple #[.int .i64 (wrap64 (a + 1)),.bool true]) ∧ w = w':=by
  go_enter Tryz.func204,Tryz.ntmps204;go_wp2
  all_goals go_ret2
  all_goals exact ⟨ret_ibA (by rfl) rfl,rfl⟩
theorem turned_1Minus (a : Int) (w : World) (ha : cellR a) :
    Calls Tryz.prog 204 #[.string ⟨#[49,45]⟩,.int .i64 a] w fun e w' => e = .returned (.tuple #[.int .i64 (wrap64 (a - 1)),.bool true]) ∧ w = w':=by
  go_enter Tryz.func204,Tryz.ntmps204;go_wp2
  all_goals go_ret2
  all_goals exact ⟨ret_ibA (by rfl) rfl,rfl⟩
theorem turned_CELLS (a : Int) (w : World) (ha : cellR a) :
    Calls Tryz.prog 204 #[.string ⟨#[67,69,76,76,83]⟩,.int .i64 a] w fun e w' => e = .returned (.tuple #[.int .i64 (wrap64 (8 * a)),.bool true]) ∧ w = w':=by
  go_enter Tryz.func204,Tryz.ntmps204;go_wp2
  all_goals go_ret2
  all_goals exact ⟨ret_ibA (by simp only [wrap64]; omega) rfl,rfl⟩
theorem turned_2Star (a : Int) (w : World) (ha : cellR a) :
    Calls Tryz.prog 204 #[.string ⟨#[50,42]⟩,.int .i64 a] w fun e w' => e = .returned (.tuple #[.int .i64 (wrap64 (a + a)),.bool true]) ∧ w = w':=by
  go_enter Tryz.func204,Tryz.ntmps204;go_wp2
  all_goals go_ret2
  all_goals exact ⟨ret_ibA (by rfl) rfl,rfl⟩
theorem turned_2Slash (a : Int) (w : World) (ha : cellR a) :
    Calls Tryz.prog 204 #[.string ⟨#[50,47]⟩,.int .i64 a] w fun e w' => e = .returned (.tuple #[.int .i64 (a / 2),.bool true]) ∧ w = w':=by
  go_enter Tryz.func204,Tryz.ntmps204;go_wp2
  all_goals go_ret2
  all_goals exact ⟨ret_ibA (by rfl) rfl,rfl⟩
theorem turned_CELLPlus (a : Int) (w : World) (ha : cellR a) :
    Calls Tryz.prog 204 #[.string ⟨#[67,69,76,76,43]⟩,.int .i64 a] w fun e w' => e = .returned (.tuple #[.int .i64 (wrap64 (a + 8)),.bool true]) ∧ w = w':=by
  go_enter Tryz.func204,Tryz.ntmps204;go_wp2
  all_goals go_ret2
  all_goals exact ⟨ret_ibA (by rfl) rfl,rfl⟩
theorem turned_ALIGNED (a : Int) (w : World) (ha : cellR a) :
    Calls Tryz.prog 204 #[.string ⟨#[65,76,73,71,78,69,68]⟩,.int .i64 a] w fun e w' => e = .returned (.tuple #[.int .i64 (wrap64 ((a + 7) / 8 * 8)),.bool true]) ∧ w = w':=by
  go_enter Tryz.func204,Tryz.ntmps204;go_wp2
  all_goals go_ret2
  all_goals exact ⟨ret_ibA (by exact aligned_eq a ha) rfl,rfl⟩
theorem turned_none (s : ByteArray) (a : Int) (w : World) (h0 : (s.toList == [65,66,83]) = false) (h1 : (s.toList == [78,69,71,65,84,69]) = false) (h2 : (s.toList == [73,78,86,69,82,84]) = false) (h3 : (s.toList == [49,43]) = false) (h4 : (s.toList == [49,45]) = false) (h5 : (s.toList == [67,69,76,76,83]) = false) (h6 : (s.toList == [50,42]) = false) (h7 : (s.toList == [50,47]) = false) (h8 : (s.toList == [67,69,76,76,43]) = false) (h9 : (s.toList == [65,76,73,71,78,69,68]) = false) :
    Calls Tryz.prog 204 #[.string s,.int .i64 a] w fun e w' => e = .returned (.tuple #[.int .i64 0,.bool false]) ∧ w = w':=by
  go_enter Tryz.func204,Tryz.ntmps204;go_wp2;go_ret2;exact ⟨ret_ibA rfl rfl,rfl⟩
theorem turned_any (s : ByteArray) (a : Int) (w : World) (ha : cellR a) :
    Calls Tryz.prog 204 #[.string s,.int .i64 a] w fun e w' => e = .returned (.tuple #[.int .i64 ((turnedF s.data.toList a).getD 0),.bool (turnedF s.data.toList a).isSome]) ∧ w = w':=by
  by_cases h0 : s.data.toList = [65,66,83]
  · obtain rfl:=str_of h0
    exact turned_ABS a w ha
  by_cases h1 : s.data.toList = [78,69,71,65,84,69]
  · obtain rfl:=str_of h1
    exact turned_NEGATE a w ha
  by_cases h2 : s.data.toList = [73,78,86,69,82,84]
  · obtain rfl:=str_of h2
    exact turned_INVERT a w ha
  by_cases h3 : s.data.toList = [49,43]
  · obtain rfl:=str_of h3
    exact turned_1Plus a w ha
  by_cases h4 : s.data.toList = [49,45]
  · obtain rfl:=str_of h4
    exact turned_1Minus a w ha
  by_cases h5 : s.data.toList = [67,69,76,76,83]
  · obtain rfl:=str_of h5
    exact turned_CELLS a w ha
  by_cases h6 : s.data.toList = [50,42]
  · obtain rfl:=str_of h6
    exact turned_2Star a w ha
  by_cases h7 : s.data.toList = [50,47]
  · obtain rfl:=str_of h7
    exact turned_2Slash a w ha
  by_cases h8 : s.data.toList = [67,69,76,76,43]
  · obtain rfl:=str_of h8
    exact turned_CELLPlus a w ha
  by_cases h9 : s.data.toList = [65,76,73,71,78,69,68]
  · obtain rfl:=str_of h9
    exact turned_ALIGNED a w ha
  have e : turnedF s.data.toList a = none:=by simp only [turnedF,h0,h1,h2,h3,h4,h5,h6,h7,h8,h9,if_false]
  rw [e];exact turned_none s a w (str_noA h0) (str_noA h1) (str_noA h2) (str_noA h3) (str_noA h4) (str_noA h5) (str_noA h6) (str_noA h7) (str_noA h8) (str_noA h9)
end Go.Proofs.YtlgnijhemfkflaaGreatDoor

namespace Go.Proofs.YtlgnijhemfkflaaGreatDoor
open Go.RowKit


theorem tell_not (is : Bool) : tellN is 0 (-1) = yes (!is):=by cases is <;> rfl
theorem below_thenA {w w1 w2 : World} (h : Below w.heap.size w w1) (k : Below w1.heap.size w1 w2) : Below w.heap.size w w2:=h.trans (k.mono h.size)
theorem teller_any (x y : Int) (w : World) :
    Calls Tryz.prog 268 #[.int .i64 x,.int .i64 y] w fun e w' => ∃ p q : Addr,e = .returned (.func (.func 293) #[] #[.pointer (some p),.pointer (some q)]) ∧ w'.cell? p = some (.int .i64 x) ∧ w'.cell? q = some (.int .i64 y) ∧ (p.block < w'.heap.size ∧ q.block < w'.heap.size) ∧ Below w.heap.size w w':=by
  have hmf : ∀ (fn : Fn) (first cap : Array Value) (w : World),(Instr.makeFunc fn first cap).run Tryz.prog w = .ok (.func fn first cap) w:=fun _ _ _ _ => rfl
  go_enter Tryz.func268,Tryz.ntmps268;go_wp2;go_ret;exact ⟨_,_,rfl,by simp,by simp,⟨by simp; omega,by simp⟩,((Below.refl _ _).alloc (Nat.le_refl _) _).alloc (by simp) _⟩
theorem tell_any (is : Bool) (p q : Addr) (x y : Int) (w : World) (hx : w.cell? p = some (.int .i64 x)) (hy : w.cell? q = some (.int .i64 y)) :
    Calls Tryz.prog 293 #[.bool is,.pointer (some p),.pointer (some q)] w fun e w' => e = .returned (.int .i64 (tellN is x y)) ∧ w = w':=by
  cases is
  all_goals
    go_enter Tryz.func293,Tryz.ntmps293;go_wp2;go_ret;exact ⟨ret_intA (by simp [tellN]),rfl⟩
theorem asked1_0LtGt (a : Int) (w : World) :
    Calls Tryz.prog 205 #[.string ⟨#[48,60,62]⟩,.int .i64 a] w fun e w' => e = .returned (.tuple #[.int .i64 (yes (a != 0)),.bool true]) ∧ Below w.heap.size w w':=by
  go_enter Tryz.func205,Tryz.ntmps205;(go_wp2_with fail);refine (teller_any _ _ _).mono ?_;rintro e w1 ⟨p,q,rfl,hp,hq,hpq,b1⟩;(go_wp2_with fail);refine (teller_any _ _ _).mono ?_;rintro e w2 ⟨p2,q2,rfl,hp2,hq2,hpq2,b2⟩;(go_wp2_with fail);(go_wp2_with (go_at_call 293; ((with_reducible refine (tell_any _ _ _ _ _ _ (by assumption) (by assumption)).mono ?_); rintro e w4 ⟨rfl,rfl⟩)));go_ret2;exact ⟨ret_ibA (by first | rfl | exact tell_not _) rfl,below_thenA b1 b2⟩
theorem asked1_0Eq (a : Int) (w : World) :
    Calls Tryz.prog 205 #[.string ⟨#[48,61]⟩,.int .i64 a] w fun e w' => e = .returned (.tuple #[.int .i64 (yes (a == 0)),.bool true]) ∧ Below w.heap.size w w':=by
  go_enter Tryz.func205,Tryz.ntmps205;(go_wp2_with fail);refine (teller_any _ _ _).mono ?_;rintro e w1 ⟨p,q,rfl,hp,hq,hpq,b1⟩;(go_wp2_with fail);(go_wp2_with (go_at_call 293; ((with_reducible refine (tell_any _ _ _ _ _ _ (by assumption) (by assumption)).mono ?_); rintro e w4 ⟨rfl,rfl⟩)));go_ret2;exact ⟨ret_ibA (by first | rfl | exact tell_not _) rfl,b1⟩
theorem asked1_0Lt (a : Int) (w : World) :
    Calls Tryz.prog 205 #[.string ⟨#[48,60]⟩,.int .i64 a] w fun e w' => e = .returned (.tuple #[.int .i64 (yes (decide (a < 0))),.bool true]) ∧ Below w.heap.size w w':=by
  go_enter Tryz.func205,Tryz.ntmps205;(go_wp2_with fail);refine (teller_any _ _ _).mono ?_;rintro e w1 ⟨p,q,rfl,hp,hq,hpq,b1⟩;(go_wp2_with fail);(go_wp2_with (go_at_call 293; ((with_reducible refine (tell_any _ _ _ _ _ _ (by assumption) (by assumption)).mono ?_); rintro e w4 ⟨rfl,rfl⟩)));go_ret2;exact ⟨ret_ibA (by first | rfl | exact tell_not _) rfl,b1⟩
theorem asked1_0Gt (a : Int) (w : World) :
    Calls Tryz.prog 205 #[.string ⟨#[48,62]⟩,.int .i64 a] w fun e w' => e = .returned (.tuple #[.int .i64 (yes (decide (0 < a))),.bool true]) ∧ Below w.heap.size w w':=by
  go_enter Tryz.func205,Tryz.ntmps205;(go_wp2_with fail);refine (teller_any _ _ _).mono ?_;rintro e w1 ⟨p,q,rfl,hp,hq,hpq,b1⟩;(go_wp2_with fail);(go_wp2_with (go_at_call 293; ((with_reducible refine (tell_any _ _ _ _ _ _ (by assumption) (by assumption)).mono ?_); rintro e w4 ⟨rfl,rfl⟩)));go_ret2;exact ⟨ret_ibA (by first | rfl | exact tell_not _) rfl,b1⟩
theorem asked1_none (s : ByteArray) (a : Int) (w : World) (h0 : (s.toList == [48,60,62]) = false) (h1 : (s.toList == [48,61]) = false) (h2 : (s.toList == [48,60]) = false) (h3 : (s.toList == [48,62]) = false) :
    Calls Tryz.prog 205 #[.string s,.int .i64 a] w fun e w' => e = .returned (.tuple #[.int .i64 0,.bool false]) ∧ Below w.heap.size w w':=by
  go_enter Tryz.func205,Tryz.ntmps205;(go_wp2_with fail);refine (teller_any _ _ _).mono ?_;rintro e w1 ⟨p,q,rfl,hp,hq,hpq,b1⟩;go_wp2;go_ret2;exact ⟨ret_ibA rfl rfl,b1⟩
theorem asked1_any (s : ByteArray) (a : Int) (w : World) :
    Calls Tryz.prog 205 #[.string s,.int .i64 a] w fun e w' => e = .returned (.tuple #[.int .i64 ((asked1F s.data.toList a).getD 0),.bool (asked1F s.data.toList a).isSome]) ∧ Below w.heap.size w w':=by
  by_cases h0 : s.data.toList = [48,60,62]
  · obtain rfl:=str_of h0
    exact asked1_0LtGt a w
  by_cases h1 : s.data.toList = [48,61]
  · obtain rfl:=str_of h1
    exact asked1_0Eq a w
  by_cases h2 : s.data.toList = [48,60]
  · obtain rfl:=str_of h2
    exact asked1_0Lt a w
  by_cases h3 : s.data.toList = [48,62]
  · obtain rfl:=str_of h3
    exact asked1_0Gt a w
  have e : asked1F s.data.toList a = none:=by simp only [asked1F,h0,h1,h2,h3,if_false]
  rw [e];exact asked1_none s a w (str_noA h0) (str_noA h1) (str_noA h2) (str_noA h3)
theorem one_any (s : ByteArray) (a : Int) (w : World) (ha : cellR a) :
    Calls Tryz.prog 82 #[.string s,.int .i64 a] w fun e w' => e = .returned (.tuple #[.int .i64 ((oneF s.data.toList a).getD 0),.bool (oneF s.data.toList a).isSome]) ∧ Below w.heap.size w w':=by
  have c1:=fun w => turned_any s a w ha
  have c2:=fun w => asked1_any s a w
  cases h : turnedF s.data.toList a with
  | some n =>
    have e : oneF s.data.toList a = some n:=by rw [oneF,h]; rfl
    rw [e];rw [h] at c1;have C1:=zqh c1;clear c1 c2 e h;go_enter Tryz.func82,Tryz.ntmps82;(go_wp2_with (go_at_call 204; ((refine (C1.out _).mono ?_); rintro e w1 ⟨rfl,rfl⟩)));go_ret2;exact ⟨ret_ibA rfl rfl,Below.refl _ _⟩
  | none =>
    have e : oneF s.data.toList a = asked1F s.data.toList a:=by rw [oneF,h]; rfl
    rw [e];rw [h] at c1;have C1:=zqh c1;have C2:=zqh c2;clear c1 c2 e h;go_enter Tryz.func82,Tryz.ntmps82;(go_wp2_with (first | (go_at_call 204; ((refine (C1.out _).mono ?_); rintro e w1 ⟨rfl,rfl⟩)) | (go_at_call 205; ((refine (C2.out _).mono ?_); rintro e w2 ⟨rfl,b2⟩))));go_ret2;exact ⟨ret_ibA rfl rfl,b2⟩
end Go.Proofs.YtlgnijhemfkflaaGreatDoor

namespace Go.Proofs.YtlgnijhemfkflaaGreatDoor
open Go.RowKit


theorem ret_ibi {k l : IntKind} {a c e f : Int} {b d : Bool} (h : a = c) (g : b = d) (i : e = f) : Ending.returned (.tuple #[.int k a,.bool b,.int l e]) = .returned (.tuple #[.int k c,.bool d,.int l f]):=by rw [h,g,i]
theorem divided_Slash (a b : Int) (w : World) (ha : cellR a) (hb : cellR b) :
    Calls Tryz.prog 201 #[.string ⟨#[47]⟩,.int .i64 a,.int .i64 b] w fun e w' => e = .returned (.tuple #[.int .i64 (dq a b),.bool true,.int .i64 (dc b)]) ∧ Below w.heap.size w w':=by
  have C1:=zqh (fun w => div_anyA a b w ha hb);go_enter Tryz.func201,Tryz.ntmps201;(go_wp2_with (go_at_call 85; ((refine (C1.out _).mono ?_); rintro e w1 ⟨rfl,b1⟩)))
  go_ret3
  exact ⟨ret_ibi rfl rfl rfl,b1⟩
theorem divided_MOD (a b : Int) (w : World) (ha : cellR a) (hb : cellR b) :
    Calls Tryz.prog 201 #[.string ⟨#[77,79,68]⟩,.int .i64 a,.int .i64 b] w fun e w' => e = .returned (.tuple #[.int .i64 (dr a b),.bool true,.int .i64 (dc b)]) ∧ Below w.heap.size w w':=by
  have C1:=zqh (fun w => div_anyA a b w ha hb);go_enter Tryz.func201,Tryz.ntmps201;(go_wp2_with (go_at_call 85; ((refine (C1.out _).mono ?_); rintro e w1 ⟨rfl,b1⟩)))
  go_ret3
  exact ⟨ret_ibi rfl rfl rfl,b1⟩
theorem divided_none (s : ByteArray) (a b : Int) (w : World) (h0 : (s.toList == [47]) = false) (h1 : (s.toList == [77,79,68]) = false) :
    Calls Tryz.prog 201 #[.string s,.int .i64 a,.int .i64 b] w fun e w' => e = .returned (.tuple #[.int .i64 0,.bool false,.int .i64 0]) ∧ Below w.heap.size w w':=by
  go_enter Tryz.func201,Tryz.ntmps201;go_wp2
  go_ret3
  exact ⟨ret_ibi rfl rfl rfl,Below.refl _ _⟩
theorem divided_any (s : ByteArray) (a b : Int) (w : World) (ha : cellR a) (hb : cellR b) :
    Calls Tryz.prog 201 #[.string s,.int .i64 a,.int .i64 b] w fun e w' => e = .returned (.tuple #[.int .i64 ((divF s.data.toList a b).getD 0),.bool (divF s.data.toList a b).isSome,.int .i64 (divC s.data.toList b)]) ∧ Below w.heap.size w w':=by
  by_cases h0 : s.data.toList = [47]
  · obtain rfl:=str_of h0
    exact divided_Slash a b w ha hb
  by_cases h1 : s.data.toList = [77,79,68]
  · obtain rfl:=str_of h1
    exact divided_MOD a b w ha hb
  have e : divF s.data.toList a b = none:=by simp only [divF,h0,h1,if_false]
  have f : divC s.data.toList b = 0:=by simp only [divC,h0,h1,or_self,if_false]
  rw [e,f];exact divided_none s a b w (str_noA h0) (str_noA h1)
theorem joined_Minus (a b : Int) (w : World) :
    Calls Tryz.prog 202 #[.string ⟨#[45]⟩,.int .i64 a,.int .i64 b] w fun e w' => e = .returned (.tuple #[.int .i64 (wrap64 (a - b)),.bool true]) ∧ w = w':=by
  go_enter Tryz.func202,Tryz.ntmps202;go_wp2
  all_goals go_ret2
  all_goals exact ⟨ret_ibA (by exact sub_eq a b) rfl,rfl⟩
theorem joined_Plus (a b : Int) (w : World) :
    Calls Tryz.prog 202 #[.string ⟨#[43]⟩,.int .i64 a,.int .i64 b] w fun e w' => e = .returned (.tuple #[.int .i64 (wrap64 (a + b)),.bool true]) ∧ w = w':=by
  go_enter Tryz.func202,Tryz.ntmps202;go_wp2
  all_goals go_ret2
  all_goals exact ⟨ret_ibA (by rfl) rfl,rfl⟩
theorem joined_Star (a b : Int) (w : World) :
    Calls Tryz.prog 202 #[.string ⟨#[42]⟩,.int .i64 a,.int .i64 b] w fun e w' => e = .returned (.tuple #[.int .i64 (wrap64 (a * b)),.bool true]) ∧ w = w':=by
  go_enter Tryz.func202,Tryz.ntmps202;go_wp2
  all_goals go_ret2
  all_goals exact ⟨ret_ibA (by rfl) rfl,rfl⟩
theorem joined_AND (a b : Int) (w : World) :
    Calls Tryz.prog 202 #[.string ⟨#[65,78,68]⟩,.int .i64 a,.int .i64 b] w fun e w' => e = .returned (.tuple #[.int .i64 (bits .and .i64 a b),.bool true]) ∧ w = w':=by
  go_enter Tryz.func202,Tryz.ntmps202;go_wp2
  all_goals go_ret2
  all_goals exact ⟨ret_ibA (by rfl) rfl,rfl⟩
theorem joined_OR (a b : Int) (w : World) :
    Calls Tryz.prog 202 #[.string ⟨#[79,82]⟩,.int .i64 a,.int .i64 b] w fun e w' => e = .returned (.tuple #[.int .i64 (bits .or .i64 a b),.bool true]) ∧ w = w':=by
  go_enter Tryz.func202,Tryz.ntmps202;go_wp2
  all_goals go_ret2
  all_goals exact ⟨ret_ibA (by rfl) rfl,rfl⟩
theorem joined_XOR (a b : Int) (w : World) :
    Calls Tryz.prog 202 #[.string ⟨#[88,79,82]⟩,.int .i64 a,.int .i64 b] w fun e w' => e = .returned (.tuple #[.int .i64 (bits .xor .i64 a b),.bool true]) ∧ w = w':=by
  go_enter Tryz.func202,Tryz.ntmps202;go_wp2
  all_goals go_ret2
  all_goals exact ⟨ret_ibA (by rfl) rfl,rfl⟩
theorem joined_LSHIFT (a b : Int) (w : World) :
    Calls Tryz.prog 202 #[.string ⟨#[76,83,72,73,70,84]⟩,.int .i64 a,.int .i64 b] w fun e w' => e = .returned (.tuple #[.int .i64 (shl a b),.bool true]) ∧ w = w':=by
  go_enter Tryz.func202,Tryz.ntmps202;go_wp2
  all_goals go_ret2
  all_goals exact ⟨ret_ibA (by exact shl_eq a b) rfl,rfl⟩
theorem joined_RSHIFT (a b : Int) (w : World) :
    Calls Tryz.prog 202 #[.string ⟨#[82,83,72,73,70,84]⟩,.int .i64 a,.int .i64 b] w fun e w' => e = .returned (.tuple #[.int .i64 (shr a b),.bool true]) ∧ w = w':=by
  go_enter Tryz.func202,Tryz.ntmps202;go_wp2
  all_goals go_ret2
  all_goals exact ⟨ret_ibA (by exact shr_eq a b) rfl,rfl⟩
theorem joined_MIN (a b : Int) (w : World) :
    Calls Tryz.prog 202 #[.string ⟨#[77,73,78]⟩,.int .i64 a,.int .i64 b] w fun e w' => e = .returned (.tuple #[.int .i64 (if b < a then b else a),.bool true]) ∧ w = w':=by
  go_enter Tryz.func202,Tryz.ntmps202;go_wp2
  all_goals go_ret2
  all_goals exact ⟨ret_ibA (by first | rfl | (split <;> omega) | (simp only [Int.min_def,Int.max_def]; (split <;> (try split) <;> omega))) rfl,rfl⟩
theorem joined_MAX (a b : Int) (w : World) :
    Calls Tryz.prog 202 #[.string ⟨#[77,65,88]⟩,.int .i64 a,.int .i64 b] w fun e w' => e = .returned (.tuple #[.int .i64 (if a < b then b else a),.bool true]) ∧ w = w':=by
  go_enter Tryz.func202,Tryz.ntmps202;go_wp2
  all_goals go_ret2
  all_goals exact ⟨ret_ibA (by first | rfl | (split <;> omega) | (simp only [Int.min_def,Int.max_def]; (split <;> (try split) <;> omega))) rfl,rfl⟩
theorem joined_none (s : ByteArray) (a b : Int) (w : World) (h0 : (s.toList == [45]) = false) (h1 : (s.toList == [43]) = false) (h2 : (s.toList == [42]) = false) (h3 : (s.toList == [65,78,68]) = false) (h4 : (s.toList == [79,82]) = false) (h5 : (s.toList == [88,79,82]) = false) (h6 : (s.toList == [76,83,72,73,70,84]) = false) (h7 : (s.toList == [82,83,72,73,70,84]) = false) (h8 : (s.toList == [77,73,78]) = false) (h9 : (s.toList == [77,65,88]) = false) :
    Calls Tryz.prog 202 #[.string s,.int .i64 a,.int .i64 b] w fun e w' => e = .returned (.tuple #[.int .i64 0,.bool false]) ∧ w = w':=by
  go_enter Tryz.func202,Tryz.ntmps202;go_wp2;go_ret2;exact ⟨ret_ibA rfl rfl,rfl⟩
theorem joined_any (s : ByteArray) (a b : Int) (w : World) :
    Calls Tryz.prog 202 #[.string s,.int .i64 a,.int .i64 b] w fun e w' => e = .returned (.tuple #[.int .i64 ((joinedF s.data.toList a b).getD 0),.bool (joinedF s.data.toList a b).isSome]) ∧ w = w':=by
  by_cases h0 : s.data.toList = [45]
  · obtain rfl:=str_of h0
    exact joined_Minus a b w
  by_cases h1 : s.data.toList = [43]
  · obtain rfl:=str_of h1
    exact joined_Plus a b w
  by_cases h2 : s.data.toList = [42]
  · obtain rfl:=str_of h2
    exact joined_Star a b w
  by_cases h3 : s.data.toList = [65,78,68]
  · obtain rfl:=str_of h3
    exact joined_AND a b w
  by_cases h4 : s.data.toList = [79,82]
  · obtain rfl:=str_of h4
    exact joined_OR a b w
  by_cases h5 : s.data.toList = [88,79,82]
  · obtain rfl:=str_of h5
    exact joined_XOR a b w
  by_cases h6 : s.data.toList = [76,83,72,73,70,84]
  · obtain rfl:=str_of h6
    exact joined_LSHIFT a b w
  by_cases h7 : s.data.toList = [82,83,72,73,70,84]
  · obtain rfl:=str_of h7
    exact joined_RSHIFT a b w
  by_cases h8 : s.data.toList = [77,73,78]
  · obtain rfl:=str_of h8
    exact joined_MIN a b w
  by_cases h9 : s.data.toList = [77,65,88]
  · obtain rfl:=str_of h9
    exact joined_MAX a b w
  have e : joinedF s.data.toList a b = none:=by simp only [joinedF,h0,h1,h2,h3,h4,h5,h6,h7,h8,h9,if_false]
  rw [e];exact joined_none s a b w (str_noA h0) (str_noA h1) (str_noA h2) (str_noA h3) (str_noA h4) (str_noA h5) (str_noA h6) (str_noA h7) (str_noA h8) (str_noA h9)
end Go.Proofs.YtlgnijhemfkflaaGreatDoor
