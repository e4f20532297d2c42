/- Part 13. -/
import Derived.Test.YtcmldhjicjmmgaaGreatDoorXlAL
import Derived.WideShapes
set_option linter.unusedVariables false
set_option linter.unusedSimpArgs false
set_option maxRecDepth 100000
set_option maxHeartbeats 4000000

namespace Go.Proofs.YtcmldhjicjmmgaaGreatDoor
open Go.RowKit


def endB (L : Nat) (h : Int) : Bool:=decide (0 ≤ h ∧ h ≤ (L : Int))
theorem endB_iff (L : Nat) (h : Int) : endB L h = true ↔ (0 ≤ h ∧ h ≤ (L : Int)):=by unfold endB; simp
def movB (L : Nat) (low here n : Int) : Bool:=decide (low - here ≤ n ∧ n ≤ (L : Int) - here)
theorem movB_iff (L : Nat) (low here n : Int) : movB L low here n = true ↔ (low - here ≤ n ∧ n ≤ (L : Int) - here):=by unfold movB; simp
theorem movB_no (L : Nat) (low here n : Int) : movB L low here n = false ↔ ¬ (low - here ≤ n ∧ n ≤ (L : Int) - here):=by unfold movB; rw [decide_eq_false_iff_not]
def movP (L : Nat) (low here n : Int) : Int:=if movB L low here n = true then here + n else here
def movC (L : Nat) (low here n : Int) : Int:=if movB L low here n = true then 0 else -8
def roomBC (L : Nat) (p : Int) (k : Nat) : Bool:=decide ((k : Int) ≤ (L : Int) - p)
theorem roomB_iff (L : Nat) (p : Int) (k : Nat) : roomBC L p k = true ↔ (k : Int) ≤ (L : Int) - p:=by unfold roomBC; simp
theorem roomB_no (L : Nat) (p : Int) (k : Nat) : roomBC L p k = false ↔ ¬ (k : Int) ≤ (L : Int) - p:=by unfold roomBC; rw [decide_eq_false_iff_not]
theorem room_ok {L : Nat} {p : Int} {k : Nat} (he : endB L p = true) (h : roomBC L p k = true) : okB L p k = true:=by
  rw [endB_iff] at he;rw [roomB_iff] at h;rw [okB_iff];omega
def layM (m : PM) (p : Int) (b : List UInt8) : PM:=if roomBC m.1.length p b.length = true then writeF m p b else m
def layP (L : Nat) (p : Int) (k : Nat) : Int:=if roomBC L p k = true then p + k else p
def layC (L : Nat) (p : Int) (k : Nat) : Int:=if roomBC L p k = true then 0 else -8
def misN (p : Int) : Nat:=((8 - p % 8) % 8).toNat
theorem misN_int (p : Int) : (misN p : Int) = (8 - p % 8) % 8:=by unfold misN; omega
theorem misN_lt (p : Int) : misN p < 8:=by unfold misN; omega
def comM (m : PM) (p n : Int) : PM:=if p % 8 = 0 then layM m p (cellBytes n) else m
def comP (L : Nat) (p : Int) : Int:=if p % 8 = 0 then layP L p 8 else p
def comC (L : Nat) (p : Int) : Int:=if p % 8 = 0 then layC L p 8 else -23
def upB (p : Int) : List UInt8:=List.replicate (misN p) 0
theorem upB_len (p : Int) : (upB p).length = misN p:=by simp [upB]
theorem left_any (A P : Option Addr) (L c K d : Nat) (h : Int) (w : World) (hL : L ≤ 65536) (h0 : 0 ≤ h) (h1 : h ≤ (L : Int)) :
    Calls Tryz.prog 236 #[.agg #[.slice A L c,.slice P K d,.int .i64 h]] w fun e w' => e = .returned (.int .i64 ((L : Int) - h)) ∧ Below w.heap.size w w':=by
  go_enter Tryz.func236,Tryz.ntmps236;go_wp2;go_ret;exact ⟨rfl,(Below.refl _ _).alloc (Nat.le_refl _) _⟩
theorem missing_any (p : Int) (w : World) (h0 : 0 ≤ p) (h1 : p ≤ 65536) :
    Calls Tryz.prog 237 #[.int .i64 p] w fun e w' => e = .returned (.int .i64 (misN p : Int)) ∧ Below w.heap.size w w':=by
  have HM : Hid ((8 - p % 8) % 8 = (misN p : Int)):=(misN_int p).symm;go_enter Tryz.func237,Tryz.ntmps237;go_wp2;go_ret;exact ⟨ret_int HM.out,Below.refl _ _⟩
theorem movP_yes {L : Nat} {low p n : Int} (h : movB L low p n = true) : movP L low p n = p + n:=by unfold movP; rw [if_pos h]
theorem movP_no {L : Nat} {low p n : Int} (h : movB L low p n = false) : movP L low p n = p:=by unfold movP; rw [if_neg (by simp [h])]
theorem movC_yes {L : Nat} {low p n : Int} (h : movB L low p n = true) : movC L low p n = 0:=by unfold movC; rw [if_pos h]
theorem movC_no {L : Nat} {low p n : Int} (h : movB L low p n = false) : movC L low p n = -8:=by unfold movC; rw [if_neg (by simp [h])]
theorem allot_at (A P : Option Addr) (L c K d : Nat) (low p n : Int) (w : World) (hL : L ≤ 65536) (hp : endB L p = true) (hl : endB L low = true) :
    Calls Tryz.prog 165 #[.agg #[.slice A L c,.slice P K d],.int .i64 low,.int .i64 p,.int .i64 n] w fun e w' => e = .returned (.tuple #[.int .i64 (movP L low p n),.int .i64 (movC L low p n)]) ∧ Below w.heap.size w w':=by
  have hmf : ∀ (fn : Fn) (first cap : Array Value) (w : World),(Instr.makeFunc fn first cap).run Tryz.prog w = .ok (.func fn first cap) w:=fun _ _ _ _ => rfl
  obtain ⟨p0,p1⟩:=(endB_iff _ _).1 hp;obtain ⟨l0,l1⟩:=(endB_iff _ _).1 hl;clear hp hl
  by_cases h1 : n < low - p
  · have HE : Hid (movB L low p n = false):=(movB_no _ _ _ _).2 (by omega)
    go_enter Tryz.func165,Tryz.ntmps165;go_wp2;go_ret2;exact ⟨ret_two (movP_no HE.out).symm (movC_no HE.out).symm,(Below.refl _ _).alloc (Nat.le_refl _) _⟩
  · have h1' : decide (n < low - p) = false:=by simp; omega
    by_cases h2 : (L : Int) - p < n
    · have HE : Hid (movB L low p n = false):=(movB_no _ _ _ _).2 (by omega)
      clear h1;go_enter Tryz.func165,Tryz.ntmps165;(go_wp2_with (go_at_call 236; (with_reducible refine (left_any _ _ _ _ _ _ _ _ hL p0 p1).mono ?_); rintro e w1 ⟨rfl,b1⟩));go_ret2;exact ⟨ret_two (movP_no HE.out).symm (movC_no HE.out).symm,box_below b1⟩
    · have HE : Hid (movB L low p n = true):=(movB_iff _ _ _ _).2 (by omega)
      have h2' : decide ((L : Int) - p < n) = false:=by simp; omega
      have h3 : 0 ≤ p + n:=by omega
      have h4 : p + n ≤ 65536:=by omega
      clear h1 h2;go_enter Tryz.func165,Tryz.ntmps165;(go_wp2_with (go_at_call 236; (with_reducible refine (left_any _ _ _ _ _ _ _ _ hL p0 p1).mono ?_); rintro e w1 ⟨rfl,b1⟩));go_ret2;exact ⟨ret_two (movP_yes HE.out).symm (movC_yes HE.out).symm,box_below b1⟩


theorem layM_yes {m : PM} {p : Int} {b : List UInt8} (h : roomBC m.1.length p b.length = true) : layM m p b = writeF m p b:=by unfold layM; rw [if_pos h]
theorem layM_no {m : PM} {p : Int} {b : List UInt8} (h : roomBC m.1.length p b.length = false) : layM m p b = m:=by unfold layM; rw [if_neg (by simp [h])]
theorem layP_yes {L : Nat} {p : Int} {k : Nat} (h : roomBC L p k = true) : layP L p k = p + k:=by unfold layP; rw [if_pos h]
theorem layP_no {L : Nat} {p : Int} {k : Nat} (h : roomBC L p k = false) : layP L p k = p:=by unfold layP; rw [if_neg (by simp [h])]
theorem layC_yes {L : Nat} {p : Int} {k : Nat} (h : roomBC L p k = true) : layC L p k = 0:=by unfold layC; rw [if_pos h]
theorem layC_no {L : Nat} {p : Int} {k : Nat} (h : roomBC L p k = false) : layC L p k = -8:=by unfold layC; rw [if_neg (by simp [h])]
theorem lay_no (A P A2 : Option Addr) (L c K d n c2 : Nat) (p : Int) (w : World) (hL : L ≤ 65536) (hp : endB L p = true) (hn : n ≤ 9223372036854775807) (hno : roomBC L p n = false) :
    Calls Tryz.prog 170 #[.agg #[.slice A L c,.slice P K d],.int .i64 p,.slice A2 n c2] w fun e w' => e = .returned (.tuple #[.agg #[.slice A L c,.slice P K d],.int .i64 p,.int .i64 (-8)]) ∧ Below w.heap.size w w':=by
  have hmf : ∀ (fn : Fn) (first cap : Array Value) (w : World),(Instr.makeFunc fn first cap).run Tryz.prog w = .ok (.func fn first cap) w:=fun _ _ _ _ => rfl
  obtain ⟨p0,p1⟩:=(endB_iff _ _).1 hp;have h1 : (L : Int) - p < (n : Int):=by have:=(roomB_no _ _ _).1 hno; omega
  clear hp hno;go_enter Tryz.func170,Tryz.ntmps170;(go_wp2_with fail);refine (left_any _ _ _ _ _ _ _ _ hL p0 p1).mono ?_;rintro e w1 ⟨rfl,b1⟩;have F1:=zqh (fr_two b1);obtain ⟨q0,q1,_,_⟩:=(fr_two b1).2.1.use;obtain ⟨q2,q3,q4,q5⟩:=(fr_two b1).2.2.use;clear b1;(go_wp2_with fail);refine bodyPost_ret (v:=.tuple #[.agg #[.slice A L c,.slice P K d],.int .i64 p,.int .i64 (-8)]) ?_ rfl ?_
  · obtain ⟨r0,r1⟩:=F1.out.2.2.got (.slice A L c) (.slice P K d)
    simp [results,Tryz.results170,go_sem,r0,r1]
  · exact ⟨rfl,F1.out.put _ _⟩


theorem comM_yes {m : PM} {p n : Int} (h : p % 8 = 0) : comM m p n = layM m p (cellBytes n):=by unfold comM; rw [if_pos h]
theorem comM_no {m : PM} {p n : Int} (h : p % 8 ≠ 0) : comM m p n = m:=by unfold comM; rw [if_neg h]
theorem comP_yes {L : Nat} {p : Int} (h : p % 8 = 0) : comP L p = layP L p 8:=by unfold comP; rw [if_pos h]
theorem comP_no {L : Nat} {p : Int} (h : p % 8 ≠ 0) : comP L p = p:=by unfold comP; rw [if_neg h]
theorem comC_yes {L : Nat} {p : Int} (h : p % 8 = 0) : comC L p = layC L p 8:=by unfold comC; rw [if_pos h]
theorem comC_no {L : Nat} {p : Int} (h : p % 8 ≠ 0) : comC L p = -23:=by unfold comC; rw [if_neg h]
theorem mis_no {p : Int} (h : p % 8 = 0) : ((misN p : Int) != 0) = false:=by rw [misN_int]; simp; omega
theorem mis_yes {p : Int} (h : p % 8 ≠ 0) : ((misN p : Int) != 0) = true:=by rw [misN_int]; simp; omega


def AllJ (o : Bool) (l : List UInt8) (lo hi b : Int) (l' : List UInt8) (low high : Int) (more : Bool) : Prop :=
  (more = true ∧ l'.length ≤ 1000 ∧ AllInv o l lo hi b (digL o l' low high b) (pairN (digLo o l' low high b) (digHi o l' low high b)) (digC o l' b)) ∨ (more = false ∧ AllInv o l lo hi b l' 0 0)
theorem AllJ.len {o : Bool} {l l' : List UInt8} {lo hi b low high : Int} (h : AllJ o l lo hi b l' low high true) : l'.length ≤ 1000:=by
  rcases h with ⟨_,h,_⟩ | ⟨h,_⟩
  · exact h
  · cases h
theorem AllJ.done {o : Bool} {l l' : List UInt8} {lo hi b low high : Int} (h : AllJ o l lo hi b l' low high false) : l' = allL o l lo hi b ∧ allC o l lo hi b = 0:=by
  rcases h with ⟨h,_⟩ | ⟨_,h⟩
  · cases h
  · exact AllInv.done h
theorem AllJ.more {o : Bool} {l l' : List UInt8} {lo hi b low high : Int} (h : AllInv o l lo hi b l' (pairN low high) 0) (h0 : pairN low high ≠ 0) : AllJ o l lo hi b l' low high true:=.inl ⟨rfl,h.len,h.next h0⟩
theorem AllJ.last {o : Bool} {l l' : List UInt8} {lo hi b : Int} (h : AllInv o l lo hi b l' (pairN 0 0) 0) : AllJ o l lo hi b l' 0 0 false:=.inr ⟨rfl,h⟩


def shl (a b : Int) : Int:=if un b ≤ 63 then wrap64 (a * 2 ^ un b) else 0
def shr (a b : Int) : Int:=if un b ≤ 63 then wrap64 ((un a / 2 ^ un b : Nat) : Int) else 0
def tellN (is : Bool) (x y : Int) : Int:=if is = true then x else y
def yes (is : Bool) : Int:=tellN is (-1) 0
def turnedF (l : List UInt8) (a : Int) : Option Int :=
  if l = [65,66,83] then some (if a < 0 then wrap64 (-a) else a) else
  if l = [78,69,71,65,84,69] then some (wrap64 (-a)) else
  if l = [73,78,86,69,82,84] then some (-1 - a) else
  if l = [49,43] then some (wrap64 (a + 1)) else
  if l = [49,45] then some (wrap64 (a - 1)) else
  if l = [67,69,76,76,83] then some (wrap64 (8 * a)) else
  if l = [50,42] then some (wrap64 (a + a)) else
  if l = [50,47] then some (a / 2) else
  if l = [67,69,76,76,43] then some (wrap64 (a + 8)) else
  if l = [65,76,73,71,78,69,68] then some (wrap64 ((a + 7) / 8 * 8)) else
  none
def asked1F (l : List UInt8) (a : Int) : Option Int :=
  if l = [48,60,62] then some (yes (a != 0)) else
  if l = [48,61] then some (yes (a == 0)) else
  if l = [48,60] then some (yes (decide (a < 0))) else
  if l = [48,62] then some (yes (decide (0 < a))) else
  none
def oneF (l : List UInt8) (a : Int) : Option Int:=(turnedF l a).or (asked1F l a)
def divF (l : List UInt8) (a b : Int) : Option Int :=
  if l = [47] then some (dq a b) else
  if l = [77,79,68] then some (dr a b) else
  none
def divC (l : List UInt8) (b : Int) : Int:=if l = [47] ∨ l = [77,79,68] then dc b else 0
def joinedF (l : List UInt8) (a b : Int) : Option Int :=
  if l = [45] then some (wrap64 (a - b)) else
  if l = [43] then some (wrap64 (a + b)) else
  if l = [42] then some (wrap64 (a * b)) else
  if l = [65,78,68] then some (bits .and .i64 a b) else
  if l = [79,82] then some (bits .or .i64 a b) else
  if l = [88,79,82] then some (bits .xor .i64 a b) else
  if l = [76,83,72,73,70,84] then some (shl a b) else
  if l = [82,83,72,73,70,84] then some (shr a b) else
  if l = [77,73,78] then some (if b < a then b else a) else
  if l = [77,65,88] then some (if a < b then b else a) else
  none
def asked2F (l : List UInt8) (a b : Int) : Option Int :=
  if l = [60,62] then some (yes (a != b)) else
  if l = [61] then some (yes (a == b)) else
  if l = [62] then some (yes (decide (b < a))) else
  if l = [60] then some (yes (decide (a < b))) else
  if l = [62,61] then some (yes (decide (b ≤ a))) else
  if l = [60,61] then some (yes (decide (a ≤ b))) else
  if l = [85,62] then some (yes (decide (un b < un a))) else
  if l = [85,60] then some (yes (decide (un a < un b))) else
  none
def twoF (l : List UInt8) (a b : Int) : Option Int:=(divF l a b).or ((joinedF l a b).or (asked2F l a b))


theorem sub_eq (a b : Int) : wrap64 (a + wrap64 (-b)) = wrap64 (a - b):=by unfold wrap64; omega
theorem wrap_mod64 {x y : Int} (h : (x - y) % 18446744073709551616 = 0) : wrap64 x = wrap64 y:=by unfold wrap64; omega
theorem shl_eq (a b : Int) : wrap64 (IntKind.u64.wrap (IntKind.u64.wrap a * 2 ^ min (IntKind.u64.wrap b).toNat 64)) = shl a b:=by
  have e : (IntKind.u64.wrap b).toNat = un b:=rfl;rw [e,IntKind.wrap_u64,IntKind.wrap_u64];unfold shl
  split
  · rename_i h
    rw [Nat.min_eq_left (by omega)];refine wrap_mod64 ?_;have h1 : a % 18446744073709551616 * 2 ^ un b = a * 2 ^ un b - 18446744073709551616 * (a / 18446744073709551616 * 2 ^ un b):=by
      rw [Int.emod_def,Int.sub_mul,Int.mul_assoc]
    rw [h1];omega
  · rw [Nat.min_eq_right (by omega),show (2 : Int) ^ 64 = 18446744073709551616 by decide]
    unfold wrap64;omega
theorem shr_eq (a b : Int) : wrap64 (IntKind.u64.wrap a / 2 ^ min (IntKind.u64.wrap b).toNat 64) = shr a b:=by
  have e : (IntKind.u64.wrap b).toNat = un b:=rfl;rw [e,un_cast];unfold shr
  split
  · rename_i h
    rw [Nat.min_eq_left (by omega),Int.natCast_ediv,Int.natCast_pow];rfl
  · have:=un_lt a
    rw [Nat.min_eq_right (by omega),show (2 : Int) ^ 64 = 18446744073709551616 by decide];unfold wrap64;omega


theorem ret_intA {k : IntKind} {a b : Int} (h : a = b) : Ending.returned (.int k a) = .returned (.int k b):=by rw [h]
theorem ret_boolA {a b : Bool} (h : a = b) : Ending.returned (.bool a) = .returned (.bool b):=by rw [h]
theorem ret_threeA {k l m : IntKind} {a b c d e f : Int} (h : a = d) (g : b = e) (i : c = f) : Ending.returned (.tuple #[.int k a,.int l b,.int m c]) = .returned (.tuple #[.int k d,.int l e,.int m f]):=by rw [h,g,i]
theorem ret_ibA {k : IntKind} {a c : Int} {b d : Bool} (h : a = c) (g : b = d) : Ending.returned (.tuple #[.int k a,.bool b]) = .returned (.tuple #[.int k c,.bool d]):=by rw [h,g]
theorem drew_belowA (w : World) (n : Nat) : Below w.heap.size w (w.drewN n):=⟨rfl,rfl,rfl,Nat.le_refl _,fun _ _ => rfl⟩
theorem uless_anyA (a b : Int) (w : World) :
    Calls Tryz.prog 227 #[.int .i64 a,.int .i64 b] w fun e w' => e = .returned (.bool (decide (un a < un b))) ∧ w = w':=by
  go_enter Tryz.func227,Tryz.ntmps227;go_wp2;go_ret;exact ⟨ret_boolA (by rw [un_cast,un_cast]; simp),rfl⟩
theorem leansUp_anyA (a b : Int) (w : World) :
    Calls Tryz.prog 219 #[.int .i64 a,.int .i64 b] w fun e w' => e = .returned (.bool (leans a b)) ∧ w = w':=by
  go_enter Tryz.func219,Tryz.ntmps219;go_wp2
  all_goals go_ret
  · exact ⟨ret_boolA (by subst_vars; simp [leans]),rfl⟩
  · exact ⟨ret_boolA (by simp [leans,bne]),rfl⟩
theorem div_anyA (a b : Int) (w : World) (ha : cellR a) (hb : cellR b) :
    Calls Tryz.prog 128 #[.int .i64 a,.int .i64 b] w fun e w' => e = .returned (.tuple #[.int .i64 (dq a b),.int .i64 (dr a b),.int .i64 (dc b)]) ∧ Below w.heap.size w w':=by
  have HA:=zqh ha;have HB:=zqh hb;clear ha hb
  by_cases h : b = 0
  · have hb0 : (b == 0) = true:=by simp [h]
    have H:=zqh h;clear h;go_enter Tryz.func128,Tryz.ntmps128;go_wp2
    go_ret3
    exact ⟨ret_threeA (by simp [dq,H.out]) (by simp [dr,H.out]) (by simp [dc,H.out]),Below.refl _ _⟩
  · have hb0 : (b == 0) = false:=by simp [h]
    by_cases hl : leans (a.tmod b) b = true
    · go_enter Tryz.func128,Tryz.ntmps128
      go_wp2
      go_quiet (fail)
      (go_wp2_with (go_at_call 219; refine (leansUp_anyA _ _ _).mono ?_; rintro e w' ⟨rfl,rfl⟩))
      go_ret3
      exact ⟨ret_threeA (by simp [dq,h,hl]) (by rw [wrap_in (leans_sum a b h HB.out hl)]; simp [dr,h,hl]) (by simp [dc,h]),drew_belowA _ _⟩
    · replace hl : leans (a.tmod b) b = false:=by simpa using hl
      go_enter Tryz.func128,Tryz.ntmps128;go_wp2
      go_quiet (fail)
      (go_wp2_with (go_at_call 219; refine (leansUp_anyA _ _ _).mono ?_; rintro e w' ⟨rfl,rfl⟩))
      go_ret3
      exact ⟨ret_threeA (by simp [dq,h,hl]) (by simp [dr,h,hl]) (by simp [dc,h]),drew_belowA _ _⟩


theorem str_of {s : ByteArray} {l : List UInt8} (h : s.data.toList = l) : s = ⟨l.toArray⟩:=Go.WideShapes.bytes_inj (by rw [h])
theorem str_noA {s : ByteArray} {l : List UInt8} (h : ¬ s.data.toList = l) : (s.toList == l) = false:=by rw [ByteArray.toList_eq]; simpa using h


theorem tell_not (is : Bool) : tellN is 0 (-1) = yes (!is):=by cases is <;> rfl
theorem below_thenA {w w1 w2 : World} (h : Below w.heap.size w w1) (k : Below w1.heap.size w1 w2) : Below w.heap.size w w2:=h.trans (k.mono h.size)
theorem teller_any (x y : Int) (w : World) :
    Calls Tryz.prog 269 #[.int .i64 x,.int .i64 y] w fun e w' => ∃ p q : Addr,e = .returned (.func (.func 290) #[] #[.pointer (some p),.pointer (some q)]) ∧ w'.cell? p = some (.int .i64 x) ∧ w'.cell? q = some (.int .i64 y) ∧ (p.block < w'.heap.size ∧ q.block < w'.heap.size) ∧ Below w.heap.size w w':=by
  have hmf : ∀ (fn : Fn) (first cap : Array Value) (w : World),(Instr.makeFunc fn first cap).run Tryz.prog w = .ok (.func fn first cap) w:=fun _ _ _ _ => rfl
  go_enter Tryz.func269,Tryz.ntmps269;go_wp2;go_ret;exact ⟨_,_,rfl,by simp,by simp,⟨by simp; omega,by simp⟩,((Below.refl _ _).alloc (Nat.le_refl _) _).alloc (by simp) _⟩
theorem tell_any (is : Bool) (p q : Addr) (x y : Int) (w : World) (hx : w.cell? p = some (.int .i64 x)) (hy : w.cell? q = some (.int .i64 y)) :
    Calls Tryz.prog 290 #[.bool is,.pointer (some p),.pointer (some q)] w fun e w' => e = .returned (.int .i64 (tellN is x y)) ∧ w = w':=by
  cases is
  all_goals
    go_enter Tryz.func290,Tryz.ntmps290;go_wp2;go_ret;exact ⟨ret_intA (by simp [tellN]),rfl⟩


theorem ret_ibi {k l : IntKind} {a c e f : Int} {b d : Bool} (h : a = c) (g : b = d) (i : e = f) : Ending.returned (.tuple #[.int k a,.bool b,.int l e]) = .returned (.tuple #[.int k c,.bool d,.int l f]):=by rw [h,g,i]
theorem divided_Slash (a b : Int) (w : World) (ha : cellR a) (hb : cellR b) :
    Calls Tryz.prog 214 #[.string ⟨#[47]⟩,.int .i64 a,.int .i64 b] w fun e w' => e = .returned (.tuple #[.int .i64 (dq a b),.bool true,.int .i64 (dc b)]) ∧ Below w.heap.size w w':=by
  have C1:=zqh (fun w => div_anyA a b w ha hb);go_enter Tryz.func214,Tryz.ntmps214;(go_wp2_with (go_at_call 128; ((refine (C1.out _).mono ?_); rintro e w1 ⟨rfl,b1⟩)))
  go_ret3
  exact ⟨ret_ibi rfl rfl rfl,b1⟩
theorem divided_MOD (a b : Int) (w : World) (ha : cellR a) (hb : cellR b) :
    Calls Tryz.prog 214 #[.string ⟨#[77,79,68]⟩,.int .i64 a,.int .i64 b] w fun e w' => e = .returned (.tuple #[.int .i64 (dr a b),.bool true,.int .i64 (dc b)]) ∧ Below w.heap.size w w':=by
  have C1:=zqh (fun w => div_anyA a b w ha hb);go_enter Tryz.func214,Tryz.ntmps214;(go_wp2_with (go_at_call 128; ((refine (C1.out _).mono ?_); rintro e w1 ⟨rfl,b1⟩)))
  go_ret3
  exact ⟨ret_ibi rfl rfl rfl,b1⟩
theorem divided_none (s : ByteArray) (a b : Int) (w : World) (h0 : (s.toList == [47]) = false) (h1 : (s.toList == [77,79,68]) = false) :
    Calls Tryz.prog 214 #[.string s,.int .i64 a,.int .i64 b] w fun e w' => e = .returned (.tuple #[.int .i64 0,.bool false,.int .i64 0]) ∧ Below w.heap.size w w':=by
  go_enter Tryz.func214,Tryz.ntmps214;go_wp2
  go_ret3
  exact ⟨ret_ibi rfl rfl rfl,Below.refl _ _⟩
theorem divided_any (s : ByteArray) (a b : Int) (w : World) (ha : cellR a) (hb : cellR b) :
    Calls Tryz.prog 214 #[.string s,.int .i64 a,.int .i64 b] w fun e w' => e = .returned (.tuple #[.int .i64 ((divF s.data.toList a b).getD 0),.bool (divF s.data.toList a b).isSome,.int .i64 (divC s.data.toList b)]) ∧ Below w.heap.size w w':=by
  by_cases h0 : s.data.toList = [47]
  · obtain rfl:=str_of h0
    exact divided_Slash a b w ha hb
  by_cases h1 : s.data.toList = [77,79,68]
  · obtain rfl:=str_of h1
    exact divided_MOD a b w ha hb
  have e : divF s.data.toList a b = none:=by simp only [divF,h0,h1,if_false]
  have f : divC s.data.toList b = 0:=by simp only [divC,h0,h1,or_self,if_false]
  rw [e,f];exact divided_none s a b w (str_noA h0) (str_noA h1)
theorem joined_Minus (a b : Int) (w : World) :
    Calls Tryz.prog 215 #[.string ⟨#[45]⟩,.int .i64 a,.int .i64 b] w fun e w' => e = .returned (.tuple #[.int .i64 (wrap64 (a - b)),.bool true]) ∧ w = w':=by
  go_enter Tryz.func215,Tryz.ntmps215;go_wp2
  all_goals go_ret2
  all_goals exact ⟨ret_ibA (by exact sub_eq a b) rfl,rfl⟩
theorem joined_Plus (a b : Int) (w : World) :
    Calls Tryz.prog 215 #[.string ⟨#[43]⟩,.int .i64 a,.int .i64 b] w fun e w' => e = .returned (.tuple #[.int .i64 (wrap64 (a + b)),.bool true]) ∧ w = w':=by
  go_enter Tryz.func215,Tryz.ntmps215;go_wp2
  all_goals go_ret2
  all_goals exact ⟨ret_ibA (by rfl) rfl,rfl⟩
theorem joined_Star (a b : Int) (w : World) :
    Calls Tryz.prog 215 #[.string ⟨#[42]⟩,.int .i64 a,.int .i64 b] w fun e w' => e = .returned (.tuple #[.int .i64 (wrap64 (a * b)),.bool true]) ∧ w = w':=by
  go_enter Tryz.func215,Tryz.ntmps215;go_wp2
  all_goals go_ret2
  all_goals exact ⟨ret_ibA (by rfl) rfl,rfl⟩
theorem joined_AND (a b : Int) (w : World) :
    Calls Tryz.prog 215 #[.string ⟨#[65,78,68]⟩,.int .i64 a,.int .i64 b] w fun e w' => e = .returned (.tuple #[.int .i64 (bits .and .i64 a b),.bool true]) ∧ w = w':=by
  go_enter Tryz.func215,Tryz.ntmps215;go_wp2
  all_goals go_ret2
  all_goals exact ⟨ret_ibA (by rfl) rfl,rfl⟩
theorem joined_OR (a b : Int) (w : World) :
    Calls Tryz.prog 215 #[.string ⟨#[79,82]⟩,.int .i64 a,.int .i64 b] w fun e w' => e = .returned (.tuple #[.int .i64 (bits .or .i64 a b),.bool true]) ∧ w = w':=by
  go_enter Tryz.func215,Tryz.ntmps215;go_wp2
  all_goals go_ret2
  all_goals exact ⟨ret_ibA (by rfl) rfl,rfl⟩
theorem joined_XOR (a b : Int) (w : World) :
    Calls Tryz.prog 215 #[.string ⟨#[88,79,82]⟩,.int .i64 a,.int .i64 b] w fun e w' => e = .returned (.tuple #[.int .i64 (bits .xor .i64 a b),.bool true]) ∧ w = w':=by
  go_enter Tryz.func215,Tryz.ntmps215;go_wp2
  all_goals go_ret2
  all_goals exact ⟨ret_ibA (by rfl) rfl,rfl⟩
theorem joined_LSHIFT (a b : Int) (w : World) :
    Calls Tryz.prog 215 #[.string ⟨#[76,83,72,73,70,84]⟩,.int .i64 a,.int .i64 b] w fun e w' => e = .returned (.tuple #[.int .i64 (shl a b),.bool true]) ∧ w = w':=by
  go_enter Tryz.func215,Tryz.ntmps215;go_wp2
  all_goals go_ret2
  all_goals exact ⟨ret_ibA (by exact shl_eq a b) rfl,rfl⟩
theorem joined_RSHIFT (a b : Int) (w : World) :
    Calls Tryz.prog 215 #[.string ⟨#[82,83,72,73,70,84]⟩,.int .i64 a,.int .i64 b] w fun e w' => e = .returned (.tuple #[.int .i64 (shr a b),.bool true]) ∧ w = w':=by
  go_enter Tryz.func215,Tryz.ntmps215;go_wp2
  all_goals go_ret2
  all_goals exact ⟨ret_ibA (by exact shr_eq a b) rfl,rfl⟩
theorem joined_MIN (a b : Int) (w : World) :
    Calls Tryz.prog 215 #[.string ⟨#[77,73,78]⟩,.int .i64 a,.int .i64 b] w fun e w' => e = .returned (.tuple #[.int .i64 (if b < a then b else a),.bool true]) ∧ w = w':=by
  go_enter Tryz.func215,Tryz.ntmps215;go_wp2
  all_goals go_ret2
  all_goals exact ⟨ret_ibA (by first | rfl | (split <;> omega) | (simp only [Int.min_def,Int.max_def]; (split <;> (try split) <;> omega))) rfl,rfl⟩
theorem joined_MAX (a b : Int) (w : World) :
    Calls Tryz.prog 215 #[.string ⟨#[77,65,88]⟩,.int .i64 a,.int .i64 b] w fun e w' => e = .returned (.tuple #[.int .i64 (if a < b then b else a),.bool true]) ∧ w = w':=by
  go_enter Tryz.func215,Tryz.ntmps215;go_wp2
  all_goals go_ret2
  all_goals exact ⟨ret_ibA (by first | rfl | (split <;> omega) | (simp only [Int.min_def,Int.max_def]; (split <;> (try split) <;> omega))) rfl,rfl⟩
theorem joined_none (s : ByteArray) (a b : Int) (w : World) (h0 : (s.toList == [45]) = false) (h1 : (s.toList == [43]) = false) (h2 : (s.toList == [42]) = false) (h3 : (s.toList == [65,78,68]) = false) (h4 : (s.toList == [79,82]) = false) (h5 : (s.toList == [88,79,82]) = false) (h6 : (s.toList == [76,83,72,73,70,84]) = false) (h7 : (s.toList == [82,83,72,73,70,84]) = false) (h8 : (s.toList == [77,73,78]) = false) (h9 : (s.toList == [77,65,88]) = false) :
    Calls Tryz.prog 215 #[.string s,.int .i64 a,.int .i64 b] w fun e w' => e = .returned (.tuple #[.int .i64 0,.bool false]) ∧ w = w':=by
  go_enter Tryz.func215,Tryz.ntmps215;go_wp2;go_ret2;exact ⟨ret_ibA rfl rfl,rfl⟩
theorem joined_any (s : ByteArray) (a b : Int) (w : World) :
    Calls Tryz.prog 215 #[.string s,.int .i64 a,.int .i64 b] w fun e w' => e = .returned (.tuple #[.int .i64 ((joinedF s.data.toList a b).getD 0),.bool (joinedF s.data.toList a b).isSome]) ∧ w = w':=by
  by_cases h0 : s.data.toList = [45]
  · obtain rfl:=str_of h0
    exact joined_Minus a b w
  by_cases h1 : s.data.toList = [43]
  · obtain rfl:=str_of h1
    exact joined_Plus a b w
  by_cases h2 : s.data.toList = [42]
  · obtain rfl:=str_of h2
    exact joined_Star a b w
  by_cases h3 : s.data.toList = [65,78,68]
  · obtain rfl:=str_of h3
    exact joined_AND a b w
  by_cases h4 : s.data.toList = [79,82]
  · obtain rfl:=str_of h4
    exact joined_OR a b w
  by_cases h5 : s.data.toList = [88,79,82]
  · obtain rfl:=str_of h5
    exact joined_XOR a b w
  by_cases h6 : s.data.toList = [76,83,72,73,70,84]
  · obtain rfl:=str_of h6
    exact joined_LSHIFT a b w
  by_cases h7 : s.data.toList = [82,83,72,73,70,84]
  · obtain rfl:=str_of h7
    exact joined_RSHIFT a b w
  by_cases h8 : s.data.toList = [77,73,78]
  · obtain rfl:=str_of h8
    exact joined_MIN a b w
  by_cases h9 : s.data.toList = [77,65,88]
  · obtain rfl:=str_of h9
    exact joined_MAX a b w
  have e : joinedF s.data.toList a b = none:=by simp only [joinedF,h0,h1,h2,h3,h4,h5,h6,h7,h8,h9,if_false]
  rw [e];exact joined_none s a b w (str_noA h0) (str_noA h1) (str_noA h2) (str_noA h3) (str_noA h4) (str_noA h5) (str_noA h6) (str_noA h7) (str_noA h8) (str_noA h9)
end Go.Proofs.YtcmldhjicjmmgaaGreatDoor
