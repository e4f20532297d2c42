/- Part 12. -/
import Derived.Test.YtcmldhjicjmmgaaGreatDoorXkAK
import Derived.Laws.Externs
import Derived.ChangeMaps5
import Derived.MapKept
import Derived.Carry
set_option linter.unusedVariables false
set_option linter.unusedSimpArgs false
set_option maxRecDepth 100000
set_option maxHeartbeats 4000000

namespace Go.Proofs.YtcmldhjicjmmgaaGreatDoor
open Go.RowKit


theorem ret_ibi {k l : IntKind} {a c e f : Int} {b d : Bool} (h : a = c) (g : b = d) (i : e = f) : Ending.returned (.tuple #[.int k a,.bool b,.int l e]) = .returned (.tuple #[.int k c,.bool d,.int l f]):=by rw [h,g,i]
theorem divided_Slash (a b : Int) (w : World) (ha : cellR a) (hb : cellR b) :
    Calls Tryz.prog 214 #[.string ⟨#[47]⟩,.int .i64 a,.int .i64 b] w fun e w' => e = .returned (.tuple #[.int .i64 (dq a b),.bool true,.int .i64 (dc b)]) ∧ Below w.heap.size w w':=by
  have C1:=zqh (fun w => div_anyA a b w ha hb);go_enter Tryz.func214,Tryz.ntmps214;(go_wp2_with (go_at_call 128; ((refine (C1.out _).mono ?_); rintro e w1 ⟨rfl,b1⟩)))
  go_ret3
  exact ⟨ret_ibi rfl rfl rfl,b1⟩
theorem divided_MOD (a b : Int) (w : World) (ha : cellR a) (hb : cellR b) :
    Calls Tryz.prog 214 #[.string ⟨#[77,79,68]⟩,.int .i64 a,.int .i64 b] w fun e w' => e = .returned (.tuple #[.int .i64 (dr a b),.bool true,.int .i64 (dc b)]) ∧ Below w.heap.size w w':=by
  have C1:=zqh (fun w => div_anyA a b w ha hb);go_enter Tryz.func214,Tryz.ntmps214;(go_wp2_with (go_at_call 128; ((refine (C1.out _).mono ?_); rintro e w1 ⟨rfl,b1⟩)))
  go_ret3
  exact ⟨ret_ibi rfl rfl rfl,b1⟩
theorem divided_none (s : ByteArray) (a b : Int) (w : World) (h0 : (s.toList == [47]) = false) (h1 : (s.toList == [77,79,68]) = false) :
    Calls Tryz.prog 214 #[.string s,.int .i64 a,.int .i64 b] w fun e w' => e = .returned (.tuple #[.int .i64 0,.bool false,.int .i64 0]) ∧ Below w.heap.size w w':=by
  go_enter Tryz.func214,Tryz.ntmps214;go_wp2
  go_ret3
  exact ⟨ret_ibi rfl rfl rfl,Below.refl _ _⟩
theorem divided_any (s : ByteArray) (a b : Int) (w : World) (ha : cellR a) (hb : cellR b) :
    Calls Tryz.prog 214 #[.string s,.int .i64 a,.int .i64 b] w fun e w' => e = .returned (.tuple #[.int .i64 ((divF s.data.toList a b).getD 0),.bool (divF s.data.toList a b).isSome,.int .i64 (divC s.data.toList b)]) ∧ Below w.heap.size w w':=by
  by_cases h0 : s.data.toList = [47]
  · obtain rfl:=str_of h0
    exact divided_Slash a b w ha hb
  by_cases h1 : s.data.toList = [77,79,68]
  · obtain rfl:=str_of h1
    exact divided_MOD a b w ha hb
  have e : divF s.data.toList a b = none:=by simp only [divF,h0,h1,if_false]
  have f : divC s.data.toList b = 0:=by simp only [divC,h0,h1,or_self,if_false]
  rw [e,f];exact divided_none s a b w (str_noA h0) (str_noA h1)
theorem joined_Minus (a b : Int) (w : World) :
    Calls Tryz.prog 215 #[.string ⟨#[45]⟩,.int .i64 a,.int .i64 b] w fun e w' => e = .returned (.tuple #[.int .i64 (wrap64 (a - b)),.bool true]) ∧ w = w':=by
  go_enter Tryz.func215,Tryz.ntmps215;go_wp2
  all_goals go_ret2
  all_goals exact ⟨ret_ibA (by exact sub_eq a b) rfl,rfl⟩
theorem joined_Plus (a b : Int) (w : World) :
    Calls Tryz.prog 215 #[.string ⟨#[43]⟩,.int .i64 a,.int .i64 b] w fun e w' => e = .returned (.tuple #[.int .i64 (wrap64 (a + b)),.bool true]) ∧ w = w':=by
  go_enter Tryz.func215,Tryz.ntmps215;go_wp2
  all_goals go_ret2
  all_goals exact ⟨ret_ibA (by rfl) rfl,rfl⟩
theorem joined_Star (a b : Int) (w : World) :
    Calls Tryz.prog 215 #[.string ⟨#[42]⟩,.int .i64 a,.int .i64 b] w fun e w' => e = .returned (.tuple #[.int .i64 (wrap64 (a * b)),.bool true]) ∧ w = w':=by
  go_enter Tryz.func215,Tryz.ntmps215;go_wp2
  all_goals go_ret2
  all_goals exact ⟨ret_ibA (by rfl) rfl,rfl⟩
theorem joined_AND (a b : Int) (w : World) :
    Calls Tryz.prog 215 #[.string ⟨#[65,78,68]⟩,.int .i64 a,.int .i64 b] w fun e w' => e = .returned (.tuple #[.int .i64 (bits .and .i64 a b),.bool true]) ∧ w = w':=by
  go_enter Tryz.func215,Tryz.ntmps215;go_wp2
  all_goals go_ret2
  all_goals exact ⟨ret_ibA (by rfl) rfl,rfl⟩
theorem joined_OR (a b : Int) (w : World) :
    Calls Tryz.prog 215 #[.string ⟨#[79,82]⟩,.int .i64 a,.int .i64 b] w fun e w' => e = .returned (.tuple #[.int .i64 (bits .or .i64 a b),.bool true]) ∧ w = w':=by
  go_enter Tryz.func215,Tryz.ntmps215;go_wp2
  all_goals go_ret2
  all_goals exact ⟨ret_ibA (by rfl) rfl,rfl⟩
theorem joined_XOR (a b : Int) (w : World) :
    Calls Tryz.prog 215 #[.string ⟨#[88,79,82]⟩,.int .i64 a,.int .i64 b] w fun e w' => e = .returned (.tuple #[.int .i64 (bits .xor .i64 a b),.bool true]) ∧ w = w':=by
  go_enter Tryz.func215,Tryz.ntmps215;go_wp2
  all_goals go_ret2
  all_goals exact ⟨ret_ibA (by rfl) rfl,rfl⟩
theorem joined_LSHIFT (a b : Int) (w : World) :
    Calls Tryz.prog 215 #[.string ⟨#[76,83,72,73,70,84]⟩,.int .i64 a,.int .i64 b] w fun e w' => e = .returned (.tuple #[.int .i64 (shl a b),.bool true]) ∧ w = w':=by
  go_enter Tryz.func215,Tryz.ntmps215;go_wp2
  all_goals go_ret2
  all_goals exact ⟨ret_ibA (by exact shl_eq a b) rfl,rfl⟩
theorem joined_RSHIFT (a b : Int) (w : World) :
    Calls Tryz.prog 215 #[.string ⟨#[82,83,72,73,70,84]⟩,.int .i64 a,.int .i64 b] w fun e w' => e = .returned (.tuple #[.int .i64 (shr a b),.bool true]) ∧ w = w':=by
  go_enter Tryz.func215,Tryz.ntmps215;go_wp2
  all_goals go_ret2
  all_goals exact ⟨ret_ibA (by exact shr_eq a b) rfl,rfl⟩
theorem joined_MIN (a b : Int) (w : World) :
    Calls Tryz.prog 215 #[.string ⟨#[77,73,78]⟩,.int .i64 a,.int .i64 b] w fun e w' => e = .returned (.tuple #[.int .i64 (if b < a then b else a),.bool true]) ∧ w = w':=by
  go_enter Tryz.func215,Tryz.ntmps215;go_wp2
  all_goals go_ret2
  all_goals exact ⟨ret_ibA (by first | rfl | (split <;> omega) | (simp only [Int.min_def,Int.max_def]; (split <;> (try split) <;> omega))) rfl,rfl⟩
theorem joined_MAX (a b : Int) (w : World) :
    Calls Tryz.prog 215 #[.string ⟨#[77,65,88]⟩,.int .i64 a,.int .i64 b] w fun e w' => e = .returned (.tuple #[.int .i64 (if a < b then b else a),.bool true]) ∧ w = w':=by
  go_enter Tryz.func215,Tryz.ntmps215;go_wp2
  all_goals go_ret2
  all_goals exact ⟨ret_ibA (by first | rfl | (split <;> omega) | (simp only [Int.min_def,Int.max_def]; (split <;> (try split) <;> omega))) rfl,rfl⟩
theorem joined_none (s : ByteArray) (a b : Int) (w : World) (h0 : (s.toList == [45]) = false) (h1 : (s.toList == [43]) = false) (h2 : (s.toList == [42]) = false) (h3 : (s.toList == [65,78,68]) = false) (h4 : (s.toList == [79,82]) = false) (h5 : (s.toList == [88,79,82]) = false) (h6 : (s.toList == [76,83,72,73,70,84]) = false) (h7 : (s.toList == [82,83,72,73,70,84]) = false) (h8 : (s.toList == [77,73,78]) = false) (h9 : (s.toList == [77,65,88]) = false) :
    Calls Tryz.prog 215 #[.string s,.int .i64 a,.int .i64 b] w fun e w' => e = .returned (.tuple #[.int .i64 0,.bool false]) ∧ w = w':=by
  go_enter Tryz.func215,Tryz.ntmps215;go_wp2;go_ret2;exact ⟨ret_ibA rfl rfl,rfl⟩
theorem joined_any (s : ByteArray) (a b : Int) (w : World) :
    Calls Tryz.prog 215 #[.string s,.int .i64 a,.int .i64 b] w fun e w' => e = .returned (.tuple #[.int .i64 ((joinedF s.data.toList a b).getD 0),.bool (joinedF s.data.toList a b).isSome]) ∧ w = w':=by
  by_cases h0 : s.data.toList = [45]
  · obtain rfl:=str_of h0
    exact joined_Minus a b w
  by_cases h1 : s.data.toList = [43]
  · obtain rfl:=str_of h1
    exact joined_Plus a b w
  by_cases h2 : s.data.toList = [42]
  · obtain rfl:=str_of h2
    exact joined_Star a b w
  by_cases h3 : s.data.toList = [65,78,68]
  · obtain rfl:=str_of h3
    exact joined_AND a b w
  by_cases h4 : s.data.toList = [79,82]
  · obtain rfl:=str_of h4
    exact joined_OR a b w
  by_cases h5 : s.data.toList = [88,79,82]
  · obtain rfl:=str_of h5
    exact joined_XOR a b w
  by_cases h6 : s.data.toList = [76,83,72,73,70,84]
  · obtain rfl:=str_of h6
    exact joined_LSHIFT a b w
  by_cases h7 : s.data.toList = [82,83,72,73,70,84]
  · obtain rfl:=str_of h7
    exact joined_RSHIFT a b w
  by_cases h8 : s.data.toList = [77,73,78]
  · obtain rfl:=str_of h8
    exact joined_MIN a b w
  by_cases h9 : s.data.toList = [77,65,88]
  · obtain rfl:=str_of h9
    exact joined_MAX a b w
  have e : joinedF s.data.toList a b = none:=by simp only [joinedF,h0,h1,h2,h3,h4,h5,h6,h7,h8,h9,if_false]
  rw [e];exact joined_none s a b w (str_noA h0) (str_noA h1) (str_noA h2) (str_noA h3) (str_noA h4) (str_noA h5) (str_noA h6) (str_noA h7) (str_noA h8) (str_noA h9)


theorem asked2_LtGt (a b : Int) (w : World) :
    Calls Tryz.prog 216 #[.string ⟨#[60,62]⟩,.int .i64 a,.int .i64 b] w fun e w' => e = .returned (.tuple #[.int .i64 (yes (a != b)),.bool true]) ∧ Below w.heap.size w w':=by
  go_enter Tryz.func216,Tryz.ntmps216;(go_wp2_with fail);refine (teller_any _ _ _).mono ?_;rintro e w1 ⟨p,q,rfl,hp,hq,hpq,b1⟩;(go_wp2_with fail);refine (teller_any _ _ _).mono ?_;rintro e w2 ⟨p2,q2,rfl,hp2,hq2,hpq2,b2⟩;(go_wp2_with fail);(go_wp2_with (first | (go_at_call 227; ((with_reducible refine (uless_anyA _ _ _).mono ?_); rintro e w3 ⟨rfl,rfl⟩)) | (go_at_call 290; ((with_reducible refine (tell_any _ _ _ _ _ _ (by assumption) (by assumption)).mono ?_); rintro e w4 ⟨rfl,rfl⟩))));go_ret2;exact ⟨ret_ibA (by first | rfl | exact tell_not _) rfl,below_thenA b1 b2⟩
theorem asked2_Eq (a b : Int) (w : World) :
    Calls Tryz.prog 216 #[.string ⟨#[61]⟩,.int .i64 a,.int .i64 b] w fun e w' => e = .returned (.tuple #[.int .i64 (yes (a == b)),.bool true]) ∧ Below w.heap.size w w':=by
  go_enter Tryz.func216,Tryz.ntmps216;(go_wp2_with fail);refine (teller_any _ _ _).mono ?_;rintro e w1 ⟨p,q,rfl,hp,hq,hpq,b1⟩;(go_wp2_with fail);(go_wp2_with (first | (go_at_call 227; ((with_reducible refine (uless_anyA _ _ _).mono ?_); rintro e w3 ⟨rfl,rfl⟩)) | (go_at_call 290; ((with_reducible refine (tell_any _ _ _ _ _ _ (by assumption) (by assumption)).mono ?_); rintro e w4 ⟨rfl,rfl⟩))));go_ret2;exact ⟨ret_ibA (by first | rfl | exact tell_not _) rfl,b1⟩
theorem asked2_Gt (a b : Int) (w : World) :
    Calls Tryz.prog 216 #[.string ⟨#[62]⟩,.int .i64 a,.int .i64 b] w fun e w' => e = .returned (.tuple #[.int .i64 (yes (decide (b < a))),.bool true]) ∧ Below w.heap.size w w':=by
  go_enter Tryz.func216,Tryz.ntmps216;(go_wp2_with fail);refine (teller_any _ _ _).mono ?_;rintro e w1 ⟨p,q,rfl,hp,hq,hpq,b1⟩;(go_wp2_with fail);(go_wp2_with (first | (go_at_call 227; ((with_reducible refine (uless_anyA _ _ _).mono ?_); rintro e w3 ⟨rfl,rfl⟩)) | (go_at_call 290; ((with_reducible refine (tell_any _ _ _ _ _ _ (by assumption) (by assumption)).mono ?_); rintro e w4 ⟨rfl,rfl⟩))));go_ret2;exact ⟨ret_ibA (by first | rfl | exact tell_not _) rfl,b1⟩
theorem asked2_Lt (a b : Int) (w : World) :
    Calls Tryz.prog 216 #[.string ⟨#[60]⟩,.int .i64 a,.int .i64 b] w fun e w' => e = .returned (.tuple #[.int .i64 (yes (decide (a < b))),.bool true]) ∧ Below w.heap.size w w':=by
  go_enter Tryz.func216,Tryz.ntmps216;(go_wp2_with fail);refine (teller_any _ _ _).mono ?_;rintro e w1 ⟨p,q,rfl,hp,hq,hpq,b1⟩;(go_wp2_with fail);(go_wp2_with (first | (go_at_call 227; ((with_reducible refine (uless_anyA _ _ _).mono ?_); rintro e w3 ⟨rfl,rfl⟩)) | (go_at_call 290; ((with_reducible refine (tell_any _ _ _ _ _ _ (by assumption) (by assumption)).mono ?_); rintro e w4 ⟨rfl,rfl⟩))));go_ret2;exact ⟨ret_ibA (by first | rfl | exact tell_not _) rfl,b1⟩
theorem asked2_GtEq (a b : Int) (w : World) :
    Calls Tryz.prog 216 #[.string ⟨#[62,61]⟩,.int .i64 a,.int .i64 b] w fun e w' => e = .returned (.tuple #[.int .i64 (yes (decide (b ≤ a))),.bool true]) ∧ Below w.heap.size w w':=by
  go_enter Tryz.func216,Tryz.ntmps216;(go_wp2_with fail);refine (teller_any _ _ _).mono ?_;rintro e w1 ⟨p,q,rfl,hp,hq,hpq,b1⟩;(go_wp2_with fail);(go_wp2_with (first | (go_at_call 227; ((with_reducible refine (uless_anyA _ _ _).mono ?_); rintro e w3 ⟨rfl,rfl⟩)) | (go_at_call 290; ((with_reducible refine (tell_any _ _ _ _ _ _ (by assumption) (by assumption)).mono ?_); rintro e w4 ⟨rfl,rfl⟩))));go_ret2;exact ⟨ret_ibA (by first | rfl | exact tell_not _) rfl,b1⟩
theorem asked2_LtEq (a b : Int) (w : World) :
    Calls Tryz.prog 216 #[.string ⟨#[60,61]⟩,.int .i64 a,.int .i64 b] w fun e w' => e = .returned (.tuple #[.int .i64 (yes (decide (a ≤ b))),.bool true]) ∧ Below w.heap.size w w':=by
  go_enter Tryz.func216,Tryz.ntmps216;(go_wp2_with fail);refine (teller_any _ _ _).mono ?_;rintro e w1 ⟨p,q,rfl,hp,hq,hpq,b1⟩;(go_wp2_with fail);(go_wp2_with (first | (go_at_call 227; ((with_reducible refine (uless_anyA _ _ _).mono ?_); rintro e w3 ⟨rfl,rfl⟩)) | (go_at_call 290; ((with_reducible refine (tell_any _ _ _ _ _ _ (by assumption) (by assumption)).mono ?_); rintro e w4 ⟨rfl,rfl⟩))));go_ret2;exact ⟨ret_ibA (by first | rfl | exact tell_not _) rfl,b1⟩
theorem asked2_UGt (a b : Int) (w : World) :
    Calls Tryz.prog 216 #[.string ⟨#[85,62]⟩,.int .i64 a,.int .i64 b] w fun e w' => e = .returned (.tuple #[.int .i64 (yes (decide (un b < un a))),.bool true]) ∧ Below w.heap.size w w':=by
  go_enter Tryz.func216,Tryz.ntmps216;(go_wp2_with fail);refine (teller_any _ _ _).mono ?_;rintro e w1 ⟨p,q,rfl,hp,hq,hpq,b1⟩;(go_wp2_with fail);(go_wp2_with (first | (go_at_call 227; ((with_reducible refine (uless_anyA _ _ _).mono ?_); rintro e w3 ⟨rfl,rfl⟩)) | (go_at_call 290; ((with_reducible refine (tell_any _ _ _ _ _ _ (by assumption) (by assumption)).mono ?_); rintro e w4 ⟨rfl,rfl⟩))));go_ret2;exact ⟨ret_ibA (by first | rfl | exact tell_not _) rfl,b1⟩
theorem asked2_ULt (a b : Int) (w : World) :
    Calls Tryz.prog 216 #[.string ⟨#[85,60]⟩,.int .i64 a,.int .i64 b] w fun e w' => e = .returned (.tuple #[.int .i64 (yes (decide (un a < un b))),.bool true]) ∧ Below w.heap.size w w':=by
  go_enter Tryz.func216,Tryz.ntmps216;(go_wp2_with fail);refine (teller_any _ _ _).mono ?_;rintro e w1 ⟨p,q,rfl,hp,hq,hpq,b1⟩;(go_wp2_with fail);(go_wp2_with (first | (go_at_call 227; ((with_reducible refine (uless_anyA _ _ _).mono ?_); rintro e w3 ⟨rfl,rfl⟩)) | (go_at_call 290; ((with_reducible refine (tell_any _ _ _ _ _ _ (by assumption) (by assumption)).mono ?_); rintro e w4 ⟨rfl,rfl⟩))));go_ret2;exact ⟨ret_ibA (by first | rfl | exact tell_not _) rfl,b1⟩
theorem asked2_none (s : ByteArray) (a b : Int) (w : World) (h0 : (s.toList == [60,62]) = false) (h1 : (s.toList == [61]) = false) (h2 : (s.toList == [62]) = false) (h3 : (s.toList == [60]) = false) (h4 : (s.toList == [62,61]) = false) (h5 : (s.toList == [60,61]) = false) (h6 : (s.toList == [85,62]) = false) (h7 : (s.toList == [85,60]) = false) :
    Calls Tryz.prog 216 #[.string s,.int .i64 a,.int .i64 b] w fun e w' => e = .returned (.tuple #[.int .i64 0,.bool false]) ∧ Below w.heap.size w w':=by
  go_enter Tryz.func216,Tryz.ntmps216;(go_wp2_with fail);refine (teller_any _ _ _).mono ?_;rintro e w1 ⟨p,q,rfl,hp,hq,hpq,b1⟩;go_wp2;go_ret2;exact ⟨ret_ibA rfl rfl,b1⟩
theorem asked2_any (s : ByteArray) (a b : Int) (w : World) :
    Calls Tryz.prog 216 #[.string s,.int .i64 a,.int .i64 b] w fun e w' => e = .returned (.tuple #[.int .i64 ((asked2F s.data.toList a b).getD 0),.bool (asked2F s.data.toList a b).isSome]) ∧ Below w.heap.size w w':=by
  by_cases h0 : s.data.toList = [60,62]
  · obtain rfl:=str_of h0
    exact asked2_LtGt a b w
  by_cases h1 : s.data.toList = [61]
  · obtain rfl:=str_of h1
    exact asked2_Eq a b w
  by_cases h2 : s.data.toList = [62]
  · obtain rfl:=str_of h2
    exact asked2_Gt a b w
  by_cases h3 : s.data.toList = [60]
  · obtain rfl:=str_of h3
    exact asked2_Lt a b w
  by_cases h4 : s.data.toList = [62,61]
  · obtain rfl:=str_of h4
    exact asked2_GtEq a b w
  by_cases h5 : s.data.toList = [60,61]
  · obtain rfl:=str_of h5
    exact asked2_LtEq a b w
  by_cases h6 : s.data.toList = [85,62]
  · obtain rfl:=str_of h6
    exact asked2_UGt a b w
  by_cases h7 : s.data.toList = [85,60]
  · obtain rfl:=str_of h7
    exact asked2_ULt a b w
  have e : asked2F s.data.toList a b = none:=by simp only [asked2F,h0,h1,h2,h3,h4,h5,h6,h7,if_false]
  rw [e];exact asked2_none s a b w (str_noA h0) (str_noA h1) (str_noA h2) (str_noA h3) (str_noA h4) (str_noA h5) (str_noA h6) (str_noA h7)
theorem div_code {l : List UInt8} {a b : Int} (h : divF l a b = none) : divC l b = 0:=by
  unfold divF at h;unfold divC
  split at h
  · cases h
  · split at h
    · cases h
    · rename_i h1 h2
      simp only [h1,h2,or_self,if_false]
theorem two_any (s : ByteArray) (a b : Int) (w : World) (ha : cellR a) (hb : cellR b) :
    Calls Tryz.prog 123 #[.string s,.int .i64 a,.int .i64 b] w fun e w' => e = .returned (.tuple #[.int .i64 ((twoF s.data.toList a b).getD 0),.bool (twoF s.data.toList a b).isSome,.int .i64 (divC s.data.toList b)]) ∧ Below w.heap.size w w':=by
  have c1:=fun w => divided_any s a b w ha hb
  have c2:=fun w => joined_any s a b w
  have c3:=fun w => asked2_any s a b w
  cases h : divF s.data.toList a b with
  | some n =>
    have e : twoF s.data.toList a b = some n:=by rw [twoF,h]; rfl
    rw [e];rw [h] at c1;have C1:=zqh c1;clear c1 c2 c3 e h;go_enter Tryz.func123,Tryz.ntmps123;(go_wp2_with (go_at_call 214; ((refine (C1.out _).mono ?_); rintro e w1 ⟨rfl,b1⟩)))
    go_ret3
    exact ⟨ret_ibi rfl rfl rfl,b1⟩
  | none =>
    have hc:=div_code h;rw [h,hc] at c1;rw [hc];have C1:=zqh c1;cases g : joinedF s.data.toList a b with
    | some n =>
      have e : twoF s.data.toList a b = some n:=by rw [twoF,h,g]; rfl
      rw [e];rw [g] at c2;have C2:=zqh c2;clear c1 c2 c3 e h g hc;go_enter Tryz.func123,Tryz.ntmps123;(go_wp2_with (first | (go_at_call 214; ((refine (C1.out _).mono ?_); rintro e w1 ⟨rfl,b1⟩)) | (go_at_call 215; ((refine (C2.out _).mono ?_); rintro e w2 ⟨rfl,rfl⟩))))
      go_ret3
      exact ⟨ret_ibi rfl rfl rfl,b1⟩
    | none =>
      have e : twoF s.data.toList a b = asked2F s.data.toList a b:=by rw [twoF,h,g]; rfl
      rw [e];rw [g] at c2;have C2:=zqh c2;have C3:=zqh c3;clear c1 c2 c3 e h g hc;go_enter Tryz.func123,Tryz.ntmps123;(go_wp2_with (first | (go_at_call 214; ((refine (C1.out _).mono ?_); rintro e w1 ⟨rfl,b1⟩)) | (go_at_call 215; ((refine (C2.out _).mono ?_); rintro e w2 ⟨rfl,rfl⟩)) | (go_at_call 216; ((refine (C3.out _).mono ?_); rintro e w3 ⟨rfl,b3⟩))))
      go_ret3
      exact ⟨ret_ibi rfl rfl rfl,below_thenA b1 b3⟩


def withinB (x lo hi : Int) : Bool:=decide (un (wrap64 (x - lo)) < un (wrap64 (hi - lo)))


structure Cuts (s a b : ByteArray) (i : Nat) : Prop where
  find : firstIdx s 32 = (i : Int)
  left : s.extract 0 i = a
  right : s.extract (i + 1) s.size = b
  lt : i < s.size
  most : s.size ≤ 100
  not : ([32] == s.toList) = false
theorem ixb_run (s : ByteArray) (i : Nat) (h : firstIdx s 32 = (i : Int)) (w : World) :
    (callFunc 309 #[.string s,.int .u8 32]).run Tryz.prog w = .ok (.value (.int .i64 (i : Int))) w:=by
  rw [run_callFunc_extern Tryz.func309 (by kernel_rfl) (by kernel_rfl) (by kernel_rfl) (e:=Extern.BytealgIndexByte.indexByte) (by kernel_rfl)];rw [run_indexByte_string,show (32 : Int).toNat.toUInt8 = 32 from rfl,h];rfl
theorem ixb_any (s : ByteArray) (i : Nat) (w : World) (h : Hid (firstIdx s 32 = (i : Int))) :
    Calls Tryz.prog 305 #[.string s,.int .u8 32] w fun e w' => e = .returned (.int .i64 (i : Int)) ∧ w = w':=by
  have hr:=ixb_run s i h.out;go_enter Tryz.func305,Tryz.ntmps305;go_wp2;go_ret;exact ⟨rfl,rfl⟩
theorem index_any (s : ByteArray) (i : Nat) (w : World) (h : Hid (firstIdx s 32 = (i : Int))) (hn : ([32] == s.toList) = false) :
    Calls Tryz.prog 304 #[.string s,.string ⟨#[32]⟩] w fun e w' => e = .returned (.int .i64 (i : Int)) ∧ w = w':=by
  go_enter Tryz.func304,Tryz.ntmps304;(go_wp2_with (go_at_call 305; ((refine (ixb_any s i _ h).mono ?_); rintro e w' ⟨rfl,rfl⟩)));go_ret;exact ⟨rfl,rfl⟩
theorem cut_lite (s a b : ByteArray) (i : Nat) (w : World) (h : Hid (Cuts s a b i)) :
    Calls Tryz.prog 300 #[.string s,.string ⟨#[32]⟩] w fun e w' => e = .returned (.tuple #[.string a,.string b,.bool true]) ∧ Below w.heap.size w w':=by
  have h1:=h.out.left;have h2:=h.out.right;have h3:=h.out.not;have h4 : (i : Int) < (s.size : Int):=by have:=h.out.lt; omega
  have h5 : (i : Int) + 1 ≤ (s.size : Int):=by omega
  have h6 : (s.size : Int) ≤ 100:=by have:=h.out.most; omega
  have h7 : IntKind.i64.wrap ((i : Int) + 1) = (i : Int) + 1:=IntWalk.i64_in _ (by omega);have h8 : ((i : Int) + 1).toNat = i + 1:=by omega
  have h9 : (0 : Int) ≤ (i : Int) + 1:=by omega
  have H3:=zqh h3;have HF:=zqh h.out.find;clear h3;go_enter Tryz.func300,Tryz.ntmps300;(go_wp2_with (go_at_call 304; ((with_reducible refine (index_any s i _ HF H3.out).mono ?_); rintro e w' ⟨rfl,rfl⟩)))
  go_quiet (fail)
  go_wp2
  go_ret3
  exact ⟨rfl,Go.Joins.below_draws _ _ _⟩
theorem cut_any (s a b : ByteArray) (i : Nat) (w : World) (h : Hid (Cuts s a b i)) :
    Calls Tryz.prog 288 #[.string s,.string ⟨#[32]⟩] w fun e w' => e = .returned (.tuple #[.string a,.string b,.bool true]) ∧ Below w.heap.size w w':=by
  go_enter Tryz.func288,Tryz.ntmps288;(go_wp2_with (go_at_call 300; ((with_reducible refine (cut_lite s a b i _ h).mono ?_); rintro e w' ⟨rfl,bb⟩)))
  go_ret3
  exact ⟨rfl,bb⟩
open Go.RowKit Go.ChangeMaps


theorem run_insert {w : World} {b : Nat} {es : Array MapEntry} {clock : Nat} (hb : w.heap[b]? = some (.map es clock)) (k v : ByteArray) (hn : Instr.findNow .string (.string k) es.toList 0 = some none) :
    ∃ w',(Instr.mapUpdate 282 (.map (some b)) (.string k) (.string v)).run Tryz.prog w = .ok () w' ∧ w'.heap[b]? = some (.map (es.push ⟨.string k,.string v,clock⟩) (clock + 1)) ∧ w.grownBy w' (some b):=by
  refine ⟨setBlock w b (.map (es.push ⟨.string k,.string v,clock⟩) (clock + 1)),?_,heap_setBlock_same hb _,⟨rfl,rfl,rfl,by simp [setBlock],fun i _ hi => heap_setBlock_other hb _ (fun e => hi (by rw [e]))⟩⟩;have hc : (Instr.checkKey false 10000 9 (.string k)).run Tryz.prog w = .ok () w:=MapKept.run_checkKey (n:=9999) Tryz.underlying9 (by simp [MapKept.IsKey]) false;have hf:=MapKept.run_findKey (P:=Tryz.prog) (w:=w) Tryz.underlying9 hn;simp [Instr.mapUpdate,run_underlying Tryz.underlying282,MapKept.run_getObj_map hb,hc,hf,MapKept.run_setObj_map _ hb,Result.andThen,setBlock]
theorem run_look {w : World} {b : Nat} {es : Array MapEntry} {clock : Nat} (hb : w.heap[b]? = some (.map es clock)) (k : ByteArray) {r : Option (Nat × Value)} (hn : Instr.findNow .string (.string k) es.toList 0 = some r) :
    (Instr.lookup 282 (.map (some b)) (.string k) true).run Tryz.prog w = .ok (match r with | some (_,v) => .tuple #[v,.bool true] | none => .tuple #[.string ByteArray.empty,.bool false]) w:=by
  have hc : ∀ e : Bool,(Instr.checkKey e 10000 9 (.string k)).run Tryz.prog w = .ok () w:=fun e => MapKept.run_checkKey (n:=9999) Tryz.underlying9 (by simp [MapKept.IsKey]) e
  have hf:=MapKept.run_findKey (P:=Tryz.prog) (w:=w) Tryz.underlying9 hn;have hz : (zeroValue 9).run Tryz.prog w = .ok (.string ByteArray.empty) w:=by kernel_rfl
  cases r with
  | none => simp [Instr.lookup,run_underlying Tryz.underlying282,MapKept.run_getObj_map hb,hc,hf,hz,Result.andThen]
  | some x => simp [Instr.lookup,run_underlying Tryz.underlying282,MapKept.run_getObj_map hb,hc,hf,hz,Result.andThen]
theorem wpList_insert {ops : Array Oper} {rest : List Oper} {o : Oper} {a : Act} {Q : Exit → Act → World → Prop} {w : World} (hg : o.guard = none) (m x v : Operand) (hop : o.op = Op.insert 282 m x v)
    (b : Nat) (es : Array MapEntry) (clock : Nat) (k u : ByteArray) (hm : a.eval m = .map (some b)) (hx : a.eval x = .string k) (hv : a.eval v = .string u) (hb : w.heap[b]? = some (.map es clock)) (hn : Instr.findNow .string (.string k) es.toList 0 = some none)
    (hK : ∀ w',w'.heap[b]? = some (.map (es.push ⟨.string k,.string u,clock⟩) (clock + 1)) → w.grownBy w' (some b) → wpList Tryz.prog ops Q rest (a.put o.dst undef) w') :
    wpList Tryz.prog ops Q (o :: rest) a w:=by
  refine wpList_plain hg fun K' hK' => ?_
  obtain ⟨w',hrun,r1,r2⟩:=run_insert hb k u hn;unfold Oper.wp;simp [execOp,hop,hm,hx,hv,hrun,Result.andThen];exact hK' _ _ (hK w' r1 r2)
def textsT : List (ByteArray × ByteArray):=[(⟨#[68,85,80]⟩,⟨#[97,32,97,97]⟩),(⟨#[68,82,79,80]⟩,⟨#[97,32]⟩),(⟨#[83,87,65,80]⟩,⟨#[97,98,32,98,97]⟩),(⟨#[79,86,69,82]⟩,⟨#[97,98,32,97,98,97]⟩),(⟨#[78,73,80]⟩,⟨#[97,98,32,98]⟩),(⟨#[84,85,67,75]⟩,⟨#[97,98,32,98,97,98]⟩),(⟨#[82,79,84]⟩,⟨#[97,98,99,32,98,99,97]⟩),(⟨#[45,82,79,84]⟩,⟨#[97,98,99,32,99,97,98]⟩),(⟨#[50,68,85,80]⟩,⟨#[97,98,32,97,98,97,98]⟩),(⟨#[50,68,82,79,80]⟩,⟨#[97,98,32]⟩),(⟨#[50,83,87,65,80]⟩,⟨#[97,98,99,100,32,99,100,97,98]⟩),(⟨#[50,79,86,69,82]⟩,⟨#[97,98,99,100,32,97,98,99,100,97,98]⟩)]
def textsE : Array MapEntry:=(textsT.zipIdx.map fun p => (⟨.string p.1.1,.string p.1.2,p.2⟩ : MapEntry)).toArray
theorem texts_any (w : World) :
    Calls Tryz.prog 264 #[] w fun e w' => e = .returned (.map (some w.heap.size)) ∧ w'.heap[w.heap.size]? = some (.map textsE 12) ∧ Below w.heap.size w w':=by
  have hmm:=@run_makeMap Tryz.prog;have HM : Hid ((w.alloc (.map #[] 0)).heap[w.heap.size]? = some (.map #[] 0)):=heap_alloc_new w _;have HB : Hid (Below w.heap.size w (w.alloc (.map #[] 0))):=zqh (below_one _ _);go_enter Tryz.func264,Tryz.ntmps264;(go_wp2_with (refine wpList_insert rfl _ _ _ rfl _ _ _ _ _ rfl rfl rfl HM.out (by kernel_rfl) ?_; intro w1 hm hg; have HM1:=zqh hm; have HB1:=zqh (HB.out.grown hg HB.out.size (fun k hk => by cases hk; exact Nat.le_refl _)); clear HM HB hm hg; have HM:=HM1; have HB:=HB1; clear HM1 HB1));go_ret;exact ⟨rfl,HM.out,HB.out⟩
structure TellsS (t a b : ByteArray) (k : Nat) (idx : List Nat) : Prop where
  cuts : ∃ i,Cuts t a b i
  takes : a.size = k
  leaves : b.size = idx.length
  few : idx.length ≤ 10
  sign : ∀ (j : Nat) (h : j < b.size) (i : Nat),idx[j]? = some i → (b[j]'h).toNat = i + 97
  most : ∀ (j i : Nat),idx[j]? = some i → i < k
  four : k ≤ 4
def leftL (l : List Int) (low : Nat) (idx : List Nat) : List Int:=l.take low ++ idx.map fun i => l.getD (low + i) 0
theorem leftL_step {l : List Int} {low j i : Nat} {idx : List Nat} (h : idx[j]? = some i) : leftL l low (idx.take (j + 1)) = leftL l low (idx.take j) ++ [l.getD (low + i) 0]:=by
  unfold leftL;have hj:=(List.getElem?_eq_some_iff.1 h);rw [List.take_succ_eq_append_getElem hj.1,List.map_append,← List.append_assoc,hj.2];rfl
theorem Owns.other {w w' : World} {base n : Nat} {v : Value} {l : List Int} (h : Owns w base v n l) (hk : ∀ g,v.ownBlock = some g → w'.heap[g]? = w.heap[g]?) : Owns w' base v n l:=by
  refine ⟨h.1,?_⟩
  rcases h.2 with h | ⟨g,cap,cur,rfl,hb,hg,hr⟩
  · exact .inl h
  · exact .inr ⟨g,cap,cur,rfl,hb,(hk g rfl).trans hg,hr⟩
theorem Owns.noIter {w : World} {base n q p : Nat} {v : Value} {l : List Int} {s : ByteArray} (h : Owns w base v n l) (hq : w.heap[q]? = some (.stringIter s p)) : v.ownBlock ≠ some q:=by
  rcases h.2 with ⟨rfl,_⟩ | ⟨g,cap,cur,rfl,hb,hg,hr⟩
  · simp [Value.ownBlock]
  · intro e
    injection e with e
    simp at e;rw [e,hq] at hg;cases hg
theorem wpList_app_g {ops : Array Oper} {rest : List Oper} {o : Oper} {a : Act} {Q : Exit → Act → World → Prop} {w : World} (hgd : o.guard = none) (s x : Operand)
    (ho : o.op = .call { callee:=.builtin .append,args:=#[s,x],argTypes:=#[22,22] })
    (base : Nat) (v : Value) (n : Nat) (xs : List Int) (hs : a.eval s = v) (hown : Owns w base v n xs)
    (A : Option Addr) (m c : Nat) (ys : List Int) (hx : a.eval x = .slice A m c) (hr : Row w A m c ys) (h63 : n + m ≤ 1000000) (hbase : base ≤ w.heap.size)
    (h : ∀ v' w',Owns w' base v' (n + m) (xs ++ ys) → w.grownBy w' v.ownBlock → wpList Tryz.prog ops Q rest (a.put o.dst v') w') : wpList Tryz.prog ops Q (o :: rest) a w:=by
  refine wpList_plain hgd fun _ hK => ?_
  obtain ⟨v',w',hr,h2,h3⟩:=run_app o.type hown hr h63 hbase;unfold Oper.wp execOp;simp only [ho,resolve,invoke,builtin,Sem.run_bind,Sem.run_pure,Result.andThen_ok,List.map_toArray,List.map_cons,List.map_nil,hs,hx,hr];exact hK _ _ (h v' w' h2 h3)
theorem told_under (A : Option Addr) (n c k : Nat) (idx : List Nat) (t a b : ByteArray) (w : World) (hn : n ≤ 65536) (hk : n < k) (HT : Hid (TellsS t a b k idx)) :
    Calls Tryz.prog 265 #[.string t,.slice A n c] w fun e w' => e = .returned (.tuple #[.slice none 0 0,.int .i64 (-4)]) ∧ Below w.heap.size w w':=by
  obtain ⟨i,hi⟩:=HT.out.cuts;have HC:=zqh hi;have ha : a.size = k:=HT.out.takes;have h4:=HT.out.four;have h5 : (n : Int) - (k : Int) < 0:=by omega
  have h6 : (n : Int) < (k : Int):=by omega
  clear hi;go_enter Tryz.func265,Tryz.ntmps265;(go_wp2_with (go_at_call 288; ((with_reducible refine (cut_any t a b i _ HC).mono ?_); rintro e w1 ⟨rfl,bb⟩)));go_ret2;exact ⟨rfl,bb⟩
end Go.Proofs.YtcmldhjicjmmgaaGreatDoor
