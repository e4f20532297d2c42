/- Part 5. -/
import Derived.Test.YtlgnijhemfkflaaGreatDoorPqAD
import Derived.Laws.RangeAny
import Derived.Lib.OthersKept
import Derived.Shelf.SlicesE.Reverse
set_option linter.unusedVariables false
set_option linter.unusedSimpArgs false
set_option maxRecDepth 100000
set_option maxHeartbeats 4000000

namespace Go.Proofs.YtlgnijhemfkflaaGreatDoor
open Go.RowKit


theorem isbase_any (b : Int) (w : World) : Calls Tryz.prog 237 #[.int .i64 b] w fun e w' => e = .returned (.bool (baseB b)) ∧ w = w':=by
  by_cases k1 : 2 ≤ b
  · by_cases k2 : b ≤ 36
    · have H : Hid (baseB b = true):=(baseB_iff b).2 ⟨k1,k2⟩
      go_enter Tryz.func237,Tryz.ntmps237;go_wp2;go_ret;exact ⟨ret_bool H.out.symm,rfl⟩
    · have k2' : decide (b ≤ 36) = false:=by simp; omega
      have H : Hid (baseB b = false):=(baseB_no b).2 (by omega);clear k2;go_enter Tryz.func237,Tryz.ntmps237;go_wp2;go_ret;exact ⟨ret_bool H.out.symm,rfl⟩
  · have k1' : decide (2 ≤ b) = false:=by simp; omega
    have H : Hid (baseB b = false):=(baseB_no b).2 (by omega);clear k1;go_enter Tryz.func237,Tryz.ntmps237;go_wp2;go_ret;exact ⟨ret_bool H.out.symm,rfl⟩
theorem nworth_any (c : Nat) (b : Int) (w : World) (hc : c ≤ 2147483647) :
    Calls Tryz.prog 307 #[.int .i32 (c : Int),.int .i64 b] w fun e w' => e = .returned (.tuple #[.int .i64 (worthF c b),.bool (isW c b)]) ∧ w = w':=by
  have hc' : (c : Int) ≤ 2147483647:=by omega
  rcases (by omega : c < 48 ∨ (48 ≤ c ∧ c ≤ 57) ∨ (57 < c ∧ c < 65) ∨ (65 ≤ c ∧ c ≤ 90) ∨ (90 < c ∧ c < 97) ∨ (97 ≤ c ∧ c ≤ 122) ∨ 122 < c) with h | h | h | h | h | h | h
  · skip
    have n48 : decide ((48 : Int) ≤ (c : Int)) = false:=by simp; omega
    have n65 : decide ((65 : Int) ≤ (c : Int)) = false:=by simp; omega
    have n97 : decide ((97 : Int) ≤ (c : Int)) = false:=by simp; omega
    have hv : Hid (((wN c : Nat) : Int) = 99):=by show _ = _; unfold wN; rw [if_neg (by omega),if_neg (by omega),if_neg (by omega)]; omega
    cases hb : baseB b with
    | false =>
      have hno:=(baseB_no b).1 hb;have H2 : Hid (isW c b = false):=(isW_no _ _).2 (by have:=hv.out; omega);have H1 : Hid (worthF c b = 0):=by show _ = _; unfold worthF; rw [H2.out]; rfl
      clear hno;go_enter Tryz.func307,Tryz.ntmps307;(go_wp2_with fail);refine (isbase_any b _).mono ?_;rw [hb];rintro e w1 ⟨rfl,rfl⟩;go_wp2;go_ret2;exact ⟨ret_ib H1.out.symm H2.out.symm,rfl⟩
    | true =>
      have hyes:=(baseB_iff b).1 hb
      by_cases k3 : b ≤ 36
      · skip
        have H2 : Hid (isW c b = false):=(isW_no _ _).2 (by have:=hv.out; omega);have H1 : Hid (worthF c b = 0):=by show _ = _; unfold worthF; rw [H2.out]; rfl
        clear hyes;go_enter Tryz.func307,Tryz.ntmps307;(go_wp2_with fail);refine (isbase_any b _).mono ?_;rw [hb];rintro e w1 ⟨rfl,rfl⟩;go_wp2;go_ret2;exact ⟨ret_ib H1.out.symm H2.out.symm,rfl⟩
      · exact absurd hyes.2 (by omega)
  · skip
    have g48 : (48 : Int) ≤ (c : Int):=by omega
    have l57 : (c : Int) ≤ 57:=by omega
    have n65 : decide ((65 : Int) ≤ (c : Int)) = false:=by simp; omega
    have n97 : decide ((97 : Int) ≤ (c : Int)) = false:=by simp; omega
    have hv : Hid (((wN c : Nat) : Int) = (c : Int) - 48):=by show _ = _; unfold wN; rw [if_pos h]; omega
    cases hb : baseB b with
    | false =>
      have hno:=(baseB_no b).1 hb;have H2 : Hid (isW c b = false):=(isW_no _ _).2 (by have:=hv.out; omega);have H1 : Hid (worthF c b = 0):=by show _ = _; unfold worthF; rw [H2.out]; rfl
      clear hno;go_enter Tryz.func307,Tryz.ntmps307;(go_wp2_with fail);refine (isbase_any b _).mono ?_;rw [hb];rintro e w1 ⟨rfl,rfl⟩;go_wp2;go_ret2;exact ⟨ret_ib H1.out.symm H2.out.symm,rfl⟩
    | true =>
      have hyes:=(baseB_iff b).1 hb
      by_cases k3 : b ≤ (c : Int) - 48
      · skip
        have H2 : Hid (isW c b = false):=(isW_no _ _).2 (by have:=hv.out; omega);have H1 : Hid (worthF c b = 0):=by show _ = _; unfold worthF; rw [H2.out]; rfl
        clear hyes;go_enter Tryz.func307,Tryz.ntmps307;(go_wp2_with fail);refine (isbase_any b _).mono ?_;rw [hb];rintro e w1 ⟨rfl,rfl⟩;go_wp2;go_ret2;exact ⟨ret_ib H1.out.symm H2.out.symm,rfl⟩
      · have k3' : decide (b ≤ (c : Int) - 48) = false:=by simp; omega
        have H2 : Hid (isW c b = true):=(isW_iff _ _).2 (by have:=hv.out; omega);have H1 : Hid (worthF c b = (c : Int) - 48):=by show _ = _; unfold worthF; rw [H2.out]; exact hv.out
        clear hyes k3;go_enter Tryz.func307,Tryz.ntmps307;(go_wp2_with fail);refine (isbase_any b _).mono ?_;rw [hb];rintro e w1 ⟨rfl,rfl⟩;go_wp2;go_ret2;exact ⟨ret_ib H1.out.symm H2.out.symm,rfl⟩
  · skip
    have g48 : (48 : Int) ≤ (c : Int):=by omega
    have m57 : decide ((c : Int) ≤ 57) = false:=by simp; omega
    have n65 : decide ((65 : Int) ≤ (c : Int)) = false:=by simp; omega
    have n97 : decide ((97 : Int) ≤ (c : Int)) = false:=by simp; omega
    have hv : Hid (((wN c : Nat) : Int) = 99):=by show _ = _; unfold wN; rw [if_neg (by omega),if_neg (by omega),if_neg (by omega)]; omega
    cases hb : baseB b with
    | false =>
      have hno:=(baseB_no b).1 hb;have H2 : Hid (isW c b = false):=(isW_no _ _).2 (by have:=hv.out; omega);have H1 : Hid (worthF c b = 0):=by show _ = _; unfold worthF; rw [H2.out]; rfl
      clear hno;go_enter Tryz.func307,Tryz.ntmps307;(go_wp2_with fail);refine (isbase_any b _).mono ?_;rw [hb];rintro e w1 ⟨rfl,rfl⟩;go_wp2;go_ret2;exact ⟨ret_ib H1.out.symm H2.out.symm,rfl⟩
    | true =>
      have hyes:=(baseB_iff b).1 hb
      by_cases k3 : b ≤ 36
      · skip
        have H2 : Hid (isW c b = false):=(isW_no _ _).2 (by have:=hv.out; omega);have H1 : Hid (worthF c b = 0):=by show _ = _; unfold worthF; rw [H2.out]; rfl
        clear hyes;go_enter Tryz.func307,Tryz.ntmps307;(go_wp2_with fail);refine (isbase_any b _).mono ?_;rw [hb];rintro e w1 ⟨rfl,rfl⟩;go_wp2;go_ret2;exact ⟨ret_ib H1.out.symm H2.out.symm,rfl⟩
      · exact absurd hyes.2 (by omega)
  · skip
    have g48 : (48 : Int) ≤ (c : Int):=by omega
    have m57 : decide ((c : Int) ≤ 57) = false:=by simp; omega
    have g65 : (65 : Int) ≤ (c : Int):=by omega
    have l90 : (c : Int) ≤ 90:=by omega
    have n97 : decide ((97 : Int) ≤ (c : Int)) = false:=by simp; omega
    have hv : Hid (((wN c : Nat) : Int) = (c : Int) - 65 + 10):=by show _ = _; unfold wN; rw [if_neg (by omega),if_pos h]; omega
    cases hb : baseB b with
    | false =>
      have hno:=(baseB_no b).1 hb;have H2 : Hid (isW c b = false):=(isW_no _ _).2 (by have:=hv.out; omega);have H1 : Hid (worthF c b = 0):=by show _ = _; unfold worthF; rw [H2.out]; rfl
      clear hno;go_enter Tryz.func307,Tryz.ntmps307;(go_wp2_with fail);refine (isbase_any b _).mono ?_;rw [hb];rintro e w1 ⟨rfl,rfl⟩;go_wp2;go_ret2;exact ⟨ret_ib H1.out.symm H2.out.symm,rfl⟩
    | true =>
      have hyes:=(baseB_iff b).1 hb
      by_cases k3 : b ≤ (c : Int) - 65 + 10
      · skip
        have H2 : Hid (isW c b = false):=(isW_no _ _).2 (by have:=hv.out; omega);have H1 : Hid (worthF c b = 0):=by show _ = _; unfold worthF; rw [H2.out]; rfl
        clear hyes;go_enter Tryz.func307,Tryz.ntmps307;(go_wp2_with fail);refine (isbase_any b _).mono ?_;rw [hb];rintro e w1 ⟨rfl,rfl⟩;go_wp2;go_ret2;exact ⟨ret_ib H1.out.symm H2.out.symm,rfl⟩
      · have k3' : decide (b ≤ (c : Int) - 65 + 10) = false:=by simp; omega
        have H2 : Hid (isW c b = true):=(isW_iff _ _).2 (by have:=hv.out; omega);have H1 : Hid (worthF c b = (c : Int) - 65 + 10):=by show _ = _; unfold worthF; rw [H2.out]; exact hv.out
        clear hyes k3;go_enter Tryz.func307,Tryz.ntmps307;(go_wp2_with fail);refine (isbase_any b _).mono ?_;rw [hb];rintro e w1 ⟨rfl,rfl⟩;go_wp2;go_ret2;exact ⟨ret_ib H1.out.symm H2.out.symm,rfl⟩
  · skip
    have g48 : (48 : Int) ≤ (c : Int):=by omega
    have m57 : decide ((c : Int) ≤ 57) = false:=by simp; omega
    have g65 : (65 : Int) ≤ (c : Int):=by omega
    have m90 : decide ((c : Int) ≤ 90) = false:=by simp; omega
    have n97 : decide ((97 : Int) ≤ (c : Int)) = false:=by simp; omega
    have hv : Hid (((wN c : Nat) : Int) = 99):=by show _ = _; unfold wN; rw [if_neg (by omega),if_neg (by omega),if_neg (by omega)]; omega
    cases hb : baseB b with
    | false =>
      have hno:=(baseB_no b).1 hb;have H2 : Hid (isW c b = false):=(isW_no _ _).2 (by have:=hv.out; omega);have H1 : Hid (worthF c b = 0):=by show _ = _; unfold worthF; rw [H2.out]; rfl
      clear hno;go_enter Tryz.func307,Tryz.ntmps307;(go_wp2_with fail);refine (isbase_any b _).mono ?_;rw [hb];rintro e w1 ⟨rfl,rfl⟩;go_wp2;go_ret2;exact ⟨ret_ib H1.out.symm H2.out.symm,rfl⟩
    | true =>
      have hyes:=(baseB_iff b).1 hb
      by_cases k3 : b ≤ 36
      · skip
        have H2 : Hid (isW c b = false):=(isW_no _ _).2 (by have:=hv.out; omega);have H1 : Hid (worthF c b = 0):=by show _ = _; unfold worthF; rw [H2.out]; rfl
        clear hyes;go_enter Tryz.func307,Tryz.ntmps307;(go_wp2_with fail);refine (isbase_any b _).mono ?_;rw [hb];rintro e w1 ⟨rfl,rfl⟩;go_wp2;go_ret2;exact ⟨ret_ib H1.out.symm H2.out.symm,rfl⟩
      · exact absurd hyes.2 (by omega)
  · skip
    have g48 : (48 : Int) ≤ (c : Int):=by omega
    have m57 : decide ((c : Int) ≤ 57) = false:=by simp; omega
    have g65 : (65 : Int) ≤ (c : Int):=by omega
    have m90 : decide ((c : Int) ≤ 90) = false:=by simp; omega
    have g97 : (97 : Int) ≤ (c : Int):=by omega
    have l122 : (c : Int) ≤ 122:=by omega
    have hv : Hid (((wN c : Nat) : Int) = (c : Int) - 97 + 10):=by show _ = _; unfold wN; rw [if_neg (by omega),if_neg (by omega),if_pos h]; omega
    cases hb : baseB b with
    | false =>
      have hno:=(baseB_no b).1 hb;have H2 : Hid (isW c b = false):=(isW_no _ _).2 (by have:=hv.out; omega);have H1 : Hid (worthF c b = 0):=by show _ = _; unfold worthF; rw [H2.out]; rfl
      clear hno;go_enter Tryz.func307,Tryz.ntmps307;(go_wp2_with fail);refine (isbase_any b _).mono ?_;rw [hb];rintro e w1 ⟨rfl,rfl⟩;go_wp2;go_ret2;exact ⟨ret_ib H1.out.symm H2.out.symm,rfl⟩
    | true =>
      have hyes:=(baseB_iff b).1 hb
      by_cases k3 : b ≤ (c : Int) - 97 + 10
      · skip
        have H2 : Hid (isW c b = false):=(isW_no _ _).2 (by have:=hv.out; omega);have H1 : Hid (worthF c b = 0):=by show _ = _; unfold worthF; rw [H2.out]; rfl
        clear hyes;go_enter Tryz.func307,Tryz.ntmps307;(go_wp2_with fail);refine (isbase_any b _).mono ?_;rw [hb];rintro e w1 ⟨rfl,rfl⟩;go_wp2;go_ret2;exact ⟨ret_ib H1.out.symm H2.out.symm,rfl⟩
      · have k3' : decide (b ≤ (c : Int) - 97 + 10) = false:=by simp; omega
        have H2 : Hid (isW c b = true):=(isW_iff _ _).2 (by have:=hv.out; omega);have H1 : Hid (worthF c b = (c : Int) - 97 + 10):=by show _ = _; unfold worthF; rw [H2.out]; exact hv.out
        clear hyes k3;go_enter Tryz.func307,Tryz.ntmps307;(go_wp2_with fail);refine (isbase_any b _).mono ?_;rw [hb];rintro e w1 ⟨rfl,rfl⟩;go_wp2;go_ret2;exact ⟨ret_ib H1.out.symm H2.out.symm,rfl⟩
  · skip
    have g48 : (48 : Int) ≤ (c : Int):=by omega
    have m57 : decide ((c : Int) ≤ 57) = false:=by simp; omega
    have g65 : (65 : Int) ≤ (c : Int):=by omega
    have m90 : decide ((c : Int) ≤ 90) = false:=by simp; omega
    have g97 : (97 : Int) ≤ (c : Int):=by omega
    have m122 : decide ((c : Int) ≤ 122) = false:=by simp; omega
    have hv : Hid (((wN c : Nat) : Int) = 99):=by show _ = _; unfold wN; rw [if_neg (by omega),if_neg (by omega),if_neg (by omega)]; omega
    cases hb : baseB b with
    | false =>
      have hno:=(baseB_no b).1 hb;have H2 : Hid (isW c b = false):=(isW_no _ _).2 (by have:=hv.out; omega);have H1 : Hid (worthF c b = 0):=by show _ = _; unfold worthF; rw [H2.out]; rfl
      clear hno;go_enter Tryz.func307,Tryz.ntmps307;(go_wp2_with fail);refine (isbase_any b _).mono ?_;rw [hb];rintro e w1 ⟨rfl,rfl⟩;go_wp2;go_ret2;exact ⟨ret_ib H1.out.symm H2.out.symm,rfl⟩
    | true =>
      have hyes:=(baseB_iff b).1 hb
      by_cases k3 : b ≤ 36
      · skip
        have H2 : Hid (isW c b = false):=(isW_no _ _).2 (by have:=hv.out; omega);have H1 : Hid (worthF c b = 0):=by show _ = _; unfold worthF; rw [H2.out]; rfl
        clear hyes;go_enter Tryz.func307,Tryz.ntmps307;(go_wp2_with fail);refine (isbase_any b _).mono ?_;rw [hb];rintro e w1 ⟨rfl,rfl⟩;go_wp2;go_ret2;exact ⟨ret_ib H1.out.symm H2.out.symm,rfl⟩
      · exact absurd hyes.2 (by omega)
theorem worth_any (c : Nat) (b : Int) (w : World) (hc : c < 256) :
    Calls Tryz.prog 300 #[.int .u8 (c : Int),.int .i64 b] w fun e w' => e = .returned (.tuple #[.int .i64 (worthF c b),.bool (isW c b)]) ∧ Below w.heap.size w w':=by
  have hc' : (c : Int) < 256:=by omega
  have HC:=zqh hc;clear hc;go_enter Tryz.func300,Tryz.ntmps300;(go_wp2_with fail);refine (nworth_any c b _ (by have:=HC.out; omega)).mono ?_;rintro e w1 ⟨rfl,rfl⟩;go_wp2;go_ret2;exact ⟨rfl,Below.refl _ _⟩
theorem digit_any (n : Int) (w : World) :
    Calls Tryz.prog 238 #[.int .i64 n] w fun e w' => e = .returned (.int .u8 (digF n)) ∧ Below w.heap.size w w':=by
  by_cases h0 : 0 ≤ n
  · by_cases h9 : n < 10
    · have H : Hid (digF n = 48 + n):=by
        show _ = _;unfold digF digN;rw [if_pos h0,if_pos (by omega)];omega
      go_enter Tryz.func238,Tryz.ntmps238;go_wp2;go_ret;exact ⟨ret_int H.out.symm,Below.refl _ _⟩
    · have h9' : decide (n < 10) = false:=by simp; omega
      have h10 : 10 ≤ n:=by omega
      by_cases h35 : n < 36
      · have H : Hid (digF n = 65 + n - 10):=by
          show _ = _;unfold digF digN;rw [if_pos h0,if_neg (by omega),if_pos (by omega)];omega
        clear h9;go_enter Tryz.func238,Tryz.ntmps238;go_wp2;go_ret;exact ⟨ret_int H.out.symm,Below.refl _ _⟩
      · have h35' : decide (n < 36) = false:=by simp; omega
        have H : Hid (digF n = 63):=by
          show _ = _;unfold digF digN;rw [if_pos h0,if_neg (by omega),if_neg (by omega)];rfl
        clear h9 h35;go_enter Tryz.func238,Tryz.ntmps238;go_wp2;go_ret;exact ⟨ret_int H.out.symm,Below.refl _ _⟩
  · have h0' : decide (0 ≤ n) = false:=by simp; omega
    have h10' : decide (10 ≤ n) = false:=by simp; omega
    have H : Hid (digF n = 63):=by
      show _ = _;unfold digF;rw [if_neg h0]
    clear h0;go_enter Tryz.func238,Tryz.ntmps238;go_wp2;go_ret;exact ⟨ret_int H.out.symm,Below.refl _ _⟩
end Go.Proofs.YtlgnijhemfkflaaGreatDoor

namespace Go.Proofs.YtlgnijhemfkflaaGreatDoor
open Go.RowKit


def WInv (R u rest : List UInt8) : Prop:=(u = [] → wordW R = wordW rest ∧ wordT R = wordT rest) ∧ (u ≠ [] → wordW R = u ++ rest.takeWhile solid ∧ wordT R = (rest.dropWhile solid).drop 1)
theorem WInv.first (R : List UInt8) : WInv R [] R:=⟨fun _ => ⟨rfl,rfl⟩,fun h => absurd rfl h⟩
theorem WInv.sign {R u rest : List UInt8} {c : UInt8} (h : WInv R u (c :: rest)) (hc : solid c = true) : WInv R (u ++ [c]) rest:=by
  refine ⟨fun e => by simp at e,fun _ => ?_⟩
  by_cases hu : u = []
  · obtain ⟨h1,h2⟩:=h.1 hu
    rw [h1,h2,hu];unfold wordW wordT;rw [if_pos hc,if_pos hc];exact ⟨rfl,rfl⟩
  · obtain ⟨h1,h2⟩:=h.2 hu
    rw [h1,h2,List.takeWhile_cons,List.dropWhile_cons,if_pos hc,if_pos hc];simp
theorem WInv.skip {R rest : List UInt8} {c : UInt8} (h : WInv R [] (c :: rest)) (hc : solid c = false) : WInv R [] rest:=by
  refine ⟨fun _ => ?_,fun e => absurd rfl e⟩;obtain ⟨h1,h2⟩:=h.1 rfl;rw [h1,h2]
  conv => lhs; lhs; unfold wordW
  conv => rhs; lhs; unfold wordT
  rw [if_neg (by simp [hc]),if_neg (by simp [hc])];exact ⟨rfl,rfl⟩
theorem WInv.last {R u : List UInt8} (h : WInv R u []) : wordW R = u ∧ wordT R = []:=by
  by_cases hu : u = []
  · obtain ⟨h1,h2⟩:=h.1 hu
    rw [h1,h2,hu];exact ⟨rfl,rfl⟩
  · obtain ⟨h1,h2⟩:=h.2 hu
    rw [h1,h2];simp
theorem str_toList (l : List UInt8) : (strB l).toList = l:=by
  rw [ByteArray.toList_eq]; rfl
def UInv (R : List UInt8) (c : UInt8) (m : Nat) : Prop:=uptoW R c = R.take m ++ uptoW (R.drop m) c ∧ (c ∈ R ↔ c ∈ R.drop m)
theorem UInv.first (R : List UInt8) (c : UInt8) : UInv R c 0:=⟨by simp,by simp⟩
theorem UInv.on {R : List UInt8} {c x : UInt8} {m : Nat} (h : UInv R c m) (hx : R[m]? = some x) (hne : x ≠ c) : UInv R c (m + 1):=by
  have hm:=(List.getElem?_eq_some_iff.1 hx).1;have e : R.drop m = x :: R.drop (m + 1):=by rw [List.drop_eq_getElem_cons hm,(List.getElem?_eq_some_iff.1 hx).2]
  obtain ⟨h1,h2⟩:=h;rw [e] at h1 h2;refine ⟨?_,?_⟩
  · rw [h1,List.take_add_one,hx]
    unfold uptoW;rw [List.takeWhile_cons,if_pos (by unfold notC; simpa using hne)];simp
  · rw [h2]
    simp;intro e;exact absurd e.symm hne
theorem UInv.no {R : List UInt8} {c : UInt8} {m : Nat} (h : UInv R c m) (hm : R.length ≤ m) : uptoW R c = R ∧ ¬ c ∈ R:=by
  obtain ⟨h1,h2⟩:=h;rw [List.drop_eq_nil_of_le hm] at h1 h2;refine ⟨?_,fun hc => by simpa using h2.1 hc⟩;rw [h1,List.take_of_length_le hm];simp [uptoW]
def Rem (l R : List UInt8) : Prop:=∃ k,k ≤ l.length ∧ R = l.drop k
theorem Rem.all (l : List UInt8) : Rem l l:=⟨0,Nat.zero_le _,rfl⟩
theorem Rem.le {l R : List UInt8} (h : Rem l R) : R.length ≤ l.length:=by
  obtain ⟨k,hk,rfl⟩:=h;rw [List.length_drop];omega
theorem Rem.drop {l R : List UInt8} (h : Rem l R) : l.drop (l.length - R.length) = R:=by
  obtain ⟨k,hk,rfl⟩:=h;rw [List.length_drop]
  congr 1
  omega
end Go.Proofs.YtlgnijhemfkflaaGreatDoor

namespace Go.Proofs.YtlgnijhemfkflaaGreatDoor
open Go.RowKit


def dSame (a b : List Wr) : Bool:=decide (a = b)
def w0 : Wr:=⟨[],0,0⟩
end Go.Proofs.YtlgnijhemfkflaaGreatDoor

namespace Go.Proofs.YtlgnijhemfkflaaGreatDoor
open Go.RowKit


def WBox (w : World) (b : Nat) (q : Wr) : Prop:=w.heap[b]? = some (.cells #[.string (strB q.nm),.int .i64 q.xt,.int .i64 q.fl] 120 (0,0))
theorem WBox.lt {w : World} {b : Nat} {q : Wr} (h : WBox w b q) : b < w.heap.size:=(Array.getElem?_eq_some_iff.1 h).1
theorem WBox.keep {w w' : World} {b : Nat} {q : Wr} (h : WBox w b q) (k : Below w.heap.size w w') : WBox w' b q:=(k.block b h.lt).trans h
theorem WBox.use {w : World} {b : Nat} {q : Wr} (h : WBox w b q) : w.cell? ⟨b,0,none⟩ = some (.string (strB q.nm)) ∧ w.cell? ⟨b,1,none⟩ = some (.int .i64 q.xt) ∧ w.cell? ⟨b,2,none⟩ = some (.int .i64 q.fl) ∧ w.frozen? ⟨b,0,none⟩ = false ∧ w.frozen? ⟨b,1,none⟩ = false ∧ w.frozen? ⟨b,2,none⟩ = false:=by
  unfold WBox at h;refine ⟨?_,?_,?_,?_,?_,?_⟩ <;> simp [World.cell?,World.frozen?,h]
theorem WBox.put {w : World} {b : Nat} {q : Wr} (h : WBox w b q) (q' : Wr) : WBox (((w.setCell ⟨b,0,none⟩ (.string (strB q'.nm))).setCell ⟨b,1,none⟩ (.int .i64 q'.xt)).setCell ⟨b,2,none⟩ (.int .i64 q'.fl)) b q':=by
  have h1:=Go.Joins.block_setCell (i:=0) h (.string (strB q'.nm));have h2:=Go.Joins.block_setCell (i:=1) h1 (.int .i64 q'.xt);have h3:=Go.Joins.block_setCell (i:=2) h2 (.int .i64 q'.fl);simpa [WBox] using h3
end Go.Proofs.YtlgnijhemfkflaaGreatDoor

namespace Go.Proofs.YtlgnijhemfkflaaGreatDoor
open Go.RowKit


theorem dsame_no {a b : List Wr} {k : Nat} {x y : Wr} (hx : a[k]? = some x) (hy : b[k]? = some y) (hne : x ≠ y) : dSame a b = false:=by
  unfold dSame;rw [decide_eq_false_iff_not];intro e;rw [e,hy] at hx;injection hx with hx
  exact hne hx.symm
theorem rsame9_any (A A' : Option Addr) (n c n' c' : Nat) (a b : List Wr) (w : World) (h : Wds w (.slice A n c) a) (h' : Wds w (.slice A' n' c') b) (ha : a.length ≤ 1000000) :
    Calls Tryz.prog 33 #[.slice A n c,.slice A' n' c'] w fun e w' => e = .returned (.bool (dSame a b)) ∧ Below w.heap.size w w':=by
  have ea:=h.len;have eb:=h'.len;subst ea eb
  by_cases hl : a.length = b.length
  · have hl' : ((a.length : Int) != (b.length : Int)) = false:=by simp [hl]
    have hl2 : ((a.length : Int) == (b.length : Int)) = true:=by simp [hl]
    have HA:=zqh h;have HB:=zqh h';have HLN:=zqh hl;clear h h' hl;go_enter Tryz.func33,Tryz.ntmps33;(go_wp2_with fail)
    go_loopw [5] (fun s5 wr => ∃ (k : Nat),s5 = .int .i64 (k : Int) ∧ k ≤ a.length ∧ Hid (a.take k = b.take k) ∧ Hid (Below w.heap.size w wr)) (fun s5 _ => a.length - (intOf s5).toNat)
    case atStart => exact ⟨0,rfl,Nat.zero_le _,zqh rfl,zqh (Below.refl _ _)⟩
    case round =>
      obtain ⟨k,rfl,hk,HT,HW⟩:=hrel
      by_cases hka : k < a.length
      · have hkb : k < b.length:=by have:=HLN.out; omega
        have hka' : (k : Int) < (a.length : Int):=by omega
        have hkb' : (k : Int) < (b.length : Int):=by omega
        obtain ⟨g,o,hA,c1,c2,c3⟩:=wds_cell (HA.out.keep HW.out) hka;obtain ⟨g',o',hA',d1,d2,d3⟩:=wds_cell (HB.out.keep HW.out) hkb;have hx:=List.getElem?_eq_getElem hka;have hy:=List.getElem?_eq_getElem hkb;obtain ⟨x,ex⟩ : ∃ x,a[k] = x:=⟨_,rfl⟩;obtain ⟨y,ey⟩ : ∃ y,b[k] = y:=⟨_,rfl⟩;rw [ex] at c1 c2 c3 hx;rw [ey] at d1 d2 d3 hy;subst hA hA';have HWd:=zqh fun i => below_then HW.out (drewN_belowW wr i)
        have HX:=zqh hx;have HY:=zqh hy;clear hx hy ex ey
        by_cases hn : x.nm = y.nm
        · rw [← hn] at d1
          by_cases ht : x.xt = y.xt
          · rw [← ht] at d2
            by_cases hf : x.fl = y.fl
            · rw [← hf] at d3
              have HT2 : Hid (a.take (k + 1) = b.take (k + 1)):=by
                show _ = _;rw [List.take_add_one,List.take_add_one,HT.out,HX.out,HY.out];rw [show x = y from by cases x; cases y; simp_all]
              clear HA HB HT hn ht hf;(go_wp2_with fail)
              go_quiet (fail)
              (go_wp2_with fail)
              go_roundw
              case rel => exact ⟨k + 1,by simp,by omega,HT2,zqh (HWd.out _)⟩
              case measure => simp [intOf]; omega
            · have hf1 : ((x.fl : Int) != y.fl) = true:=by simpa using hf
              have hf2 : ((x.fl : Int) == y.fl) = false:=by simpa using hf
              have H : Hid (dSame a b = false):=dsame_no HX.out HY.out (fun e => hf (by rw [e]));clear HT HA HB;(go_wp2_with fail)
              go_quiet (fail)
              (go_wp2_with fail);go_ret;exact ⟨by rw [H.out]; rfl,HWd.out _⟩
          · have ht1 : ((x.xt : Int) != y.xt) = true:=by simpa using ht
            have ht2 : ((x.xt : Int) == y.xt) = false:=by simpa using ht
            have H : Hid (dSame a b = false):=dsame_no HX.out HY.out (fun e => ht (by rw [e]));clear HT HA HB;(go_wp2_with fail)
            go_quiet (fail)
            (go_wp2_with fail);go_ret;exact ⟨by rw [H.out]; rfl,HWd.out _⟩
        · have hne:=str_ne (a:=strB x.nm) (b:=strB y.nm) (fun e => hn (strB_inj e))
          have hne2:=str_neq (a:=strB x.nm) (b:=strB y.nm) (fun e => hn (strB_inj e));have H : Hid (dSame a b = false):=dsame_no HX.out HY.out (fun e => hn (by rw [e]));clear HT HA HB;(go_wp2_with fail)
          go_quiet (fail)
          (go_wp2_with fail);go_ret;exact ⟨by rw [H.out]; rfl,HWd.out _⟩
      · obtain rfl : k = a.length:=by omega
        have H : Hid (dSame a b = true):=by
          have ht:=HT.out;have hl:=HLN.out;show _ = _;unfold dSame;rw [List.take_length,hl,List.take_length] at ht;simpa using ht
        have hkl : decide ((a.length : Int) < (a.length : Int)) = false:=by simp
        clear hka hk HT HA HB;(go_wp2_with fail);go_ret;exact ⟨by rw [H.out]; rfl,HW.out⟩
  · have H : Hid (dSame a b = false):=by show _ = _; unfold dSame; simp; intro e; rw [e] at hl; exact hl rfl
    rw [H.out];have hl' : ((a.length : Int) != (b.length : Int)) = true:=by simp; omega
    have hl2 : ((a.length : Int) == (b.length : Int)) = false:=by simp; omega
    have hl3 : ¬ (a.length : Int) = (b.length : Int):=by omega
    clear h h' hl ha;go_enter Tryz.func33,Tryz.ntmps33;(go_wp2_with fail);go_ret;exact ⟨rfl,Below.refl _ _⟩
end Go.Proofs.YtlgnijhemfkflaaGreatDoor

namespace Go.Proofs.YtlgnijhemfkflaaGreatDoor
open Go.RowKit


def pSame (o : Bool) (l : List UInt8) (o' : Bool) (l' : List UInt8) : Bool:=decide (o = o' ∧ l = l')
def pOpen (o : Bool) (l : List UInt8) : Bool:=decide (o = true ∧ l.length < 130)
theorem pOpen_iff (o : Bool) (l : List UInt8) : pOpen o l = true ↔ (o = true ∧ l.length < 130):=by unfold pOpen; simp
theorem pOpen_no (o : Bool) (l : List UInt8) : pOpen o l = false ↔ ¬ (o = true ∧ l.length < 130):=by unfold pOpen; rw [decide_eq_false_iff_not]
def byteI (c : Int) : UInt8:=UInt8.ofNat (c % 256).toNat
theorem byteI_nat (c : Int) : ((byteI c).toNat : Int) = c % 256:=by
  unfold byteI;rw [UInt8.toNat_ofNat'];omega
def holdL (o : Bool) (l : List UInt8) (c : Int) : List UInt8:=if pOpen o l = true then l ++ [byteI c] else l
def holdC (o : Bool) (l : List UInt8) : Int:=if pOpen o l = true then 0 else -17
def pairN (lo hi : Int) : Nat:=un hi * 18446744073709551616 + un lo
def lowI (P : Nat) : Int:=wrap64 ((P % 18446744073709551616 : Nat) : Int)
def highI (P : Nat) : Int:=wrap64 ((P / 18446744073709551616 : Nat) : Int)
def digOK (o : Bool) (l : List UInt8) (b : Int) : Bool:=baseB b && pOpen o l
def digU (lo hi b : Int) : UInt8:=UInt8.ofNat (digN (pairN lo hi % b.toNat))
def digL (o : Bool) (l : List UInt8) (lo hi b : Int) : List UInt8:=if digOK o l b = true then l ++ [digU lo hi b] else l
def digLo (o : Bool) (l : List UInt8) (lo hi b : Int) : Int:=if digOK o l b = true then lowI (pairN lo hi / b.toNat) else lo
def digHi (o : Bool) (l : List UInt8) (lo hi b : Int) : Int:=if digOK o l b = true then highI (pairN lo hi / b.toNat) else hi
def digC (o : Bool) (l : List UInt8) (b : Int) : Int:=if baseB b = true then holdC o l else -24
def figs (lo hi b : Int) : List UInt8:=usF b.toNat (pairN lo hi)
def allOK (o : Bool) (l : List UInt8) (lo hi b : Int) : Bool:=baseB b && decide (o = true ∧ l.length + (figs lo hi b).length ≤ 130)
def allL (o : Bool) (l : List UInt8) (lo hi b : Int) : List UInt8:=if allOK o l lo hi b = true then l ++ (figs lo hi b).reverse else l
def allC (o : Bool) (l : List UInt8) (lo hi b : Int) : Int:=if baseB b = true then (if allOK o l lo hi b = true then 0 else -17) else -24
def signL (o : Bool) (l : List UInt8) (n : Int) : List UInt8:=if n < 0 then holdL o l 45 else l
def signC (o : Bool) (l : List UInt8) (n : Int) : Int:=if n < 0 then holdC o l else 0
def endL (o : Bool) (l : List UInt8) : List UInt8:=if o = true then l.reverse else []
def endC (o : Bool) : Int:=if o = true then 0 else -17
theorem pairN_lt (lo hi : Int) : pairN lo hi < 340282366920938463463374607431768211456:=by
  unfold pairN;have:=un_lt lo;have:=un_lt hi;omega
theorem un_low (P : Nat) : un (lowI P) = P % 18446744073709551616:=by
  have:=un_mod (lowI P);unfold lowI wrap64 at *;omega
theorem un_high {P : Nat} (h : P < 340282366920938463463374607431768211456) : un (highI P) = P / 18446744073709551616:=by
  have:=un_mod (highI P);unfold highI wrap64 at *;omega
theorem pair_back {P : Nat} (h : P < 340282366920938463463374607431768211456) : pairN (lowI P) (highI P) = P:=by
  unfold pairN;rw [un_low,un_high h];omega
theorem low_rng (P : Nat) : -9223372036854775808 ≤ lowI P ∧ lowI P ≤ 9223372036854775807:=by unfold lowI wrap64; omega
theorem high_rng (P : Nat) : -9223372036854775808 ≤ highI P ∧ highI P ≤ 9223372036854775807:=by unfold highI wrap64; omega
theorem pair_zero {lo hi : Int} (h0 : cellR lo) (h1 : cellR hi) : pairN lo hi = 0 ↔ lo = 0 ∧ hi = 0:=by
  have:=un_zero h0;have:=un_zero h1;unfold pairN;omega
end Go.Proofs.YtlgnijhemfkflaaGreatDoor

namespace Go.Proofs
open Go.Shelf
def Tryz.rev_ren : Go.Shelf.Ren:=⟨fun | 35 => 239 | n => n,fun | 0 => 0 | 3 => 3 | 4 => 4 | 22 => 24 | 23 => 5 | n => n,fun | n => n⟩
theorem Tryz.rev_lays : Go.Proofs.SlLaysE.n35 Tryz.prog Tryz.rev_ren:={
  mixed:=by kernel_rfl
  f35 := ⟨"slices.Reverse[[]byte,byte]", by decide, Tryz.func239.trans (congrArg some (by kernel_rfl))⟩
  t0:=Tryz.underlying0
  a0:=Tryz.isAgg0
  z0:=Tryz.sizeOf0
  v0:=Tryz.zeroValue0
  t3:=Tryz.underlying3
  a3:=Tryz.isAgg3
  z3:=Tryz.sizeOf3
  v3:=Tryz.zeroValue3
  t4:=Tryz.underlying4
  a4:=Tryz.isAgg4
  z4:=Tryz.sizeOf4
  v4:=Tryz.zeroValue4
  t22:=Tryz.underlying24
  a22:=Tryz.isAgg24
  z22:=Tryz.sizeOf24
  v22:=Tryz.zeroValue24
  a23:=Tryz.isAgg5
  z23:=Tryz.sizeOf5 }
theorem Tryz.slices_Reverse (blk off cap : Nat) (zs : List UInt8) (w : World) (hH : Go.Sort.Holds (fun b : UInt8 => Value.int .u8 (b.toNat : Int)) w blk off zs.toArray) (hsz : zs.length ≤ 9223372036854775807) :
    Calls Tryz.prog 239 #[.slice (some ⟨blk,off,none⟩) zs.length cap] w fun e w' => e = .returned (.tuple #[]) ∧ ∃ n,w' = Go.Sort.putRow (fun b : UInt8 => Value.int .u8 (b.toNat : Int)) (Go.Sort.ahead w n) blk off zs.reverse.toArray :=
  AnyE.slices_Reverse Tryz.rev_lays (fun b : UInt8 => Value.int .u8 (b.toNat : Int)) (fun _ => rfl) blk off cap zs w hH hsz
end Go.Proofs

namespace Go.Proofs.YtlgnijhemfkflaaGreatDoor
open Go.RowKit


abbrev encB (b : UInt8) : Value:=.int .u8 (b.toNat : Int)
theorem putRow_below {w0 w : World} {g off : Nat} {d : Array UInt8} (n : Nat) (hb : Below w0.heap.size w0 w) (hg : w0.heap.size ≤ g) : Below w0.heap.size w0 (Go.Sort.putRow encB (Go.Sort.ahead w n) g off d):=by
  refine hb.trans ⟨rfl,rfl,rfl,?_,fun k hk => ?_⟩
  · rw [Go.Sort.size_putRow]; exact Nat.le_refl _
  · show (w.heap.modify g _)[k]? = w.heap[k]?
    rw [Array.getElem?_modify,if_neg (by omega)]
theorem rev_own (w : World) (base n : Nat) (v : Value) (l : List UInt8) (h : BOwns w base v n l) (hne : l ≠ []) (hl : l.length ≤ 1000000) :
    Calls Tryz.prog 239 #[v] w fun e w' => e = .returned (.tuple #[]) ∧ Byt w' v l.reverse ∧ ∀ w0 : World,Below w0.heap.size w0 w → w0.heap.size ≤ base → Below w0.heap.size w0 w':=by
  have hn:=h.len;have hby:=h.byt
  rcases h.2 with ⟨_,h0⟩ | ⟨g,cap,cur,rfl,hbg,hg,hnc,hcm,hcs,ht⟩
  · exact absurd (List.eq_nil_of_length_eq_zero (hn.trans h0)) hne
  · subst hn
    have hH : Go.Sort.Holds encB w g 0 l.toArray:=by
      intro j hj;have hj' : j < l.length:=by simpa using hj
      constructor
      · obtain ⟨A,c,e,_,_,hli⟩:=hby
        injection e with e1 e2 e3
        subst e1
        rcases hli with h | ⟨g2,o2,e4,_,hc⟩
        · have:=congrArg List.length h
          rw [u8s_len] at this;have h0 : l.length = 0:=this;omega
        · injection e4 with e4
          have:=hc j (encB l[j]) (by unfold u8s; rw [List.getElem?_map,List.getElem?_eq_getElem hj']; rfl);injection e4 with e5 e6
          rw [← e5,← e6] at this;rw [this]
          congr 2
          simp [hj']
      · simp [World.frozen?,hg]
    refine (Tryz.slices_Reverse g 0 cap l w hH (by omega)).mono ?_;rintro e w' ⟨rfl,m,rfl⟩;refine ⟨rfl,⟨some ⟨g,0,none⟩,cap,by rw [List.length_reverse],by rw [List.length_reverse]; exact hnc,hcm,.inr ⟨g,0,rfl,?_,fun j x hx => ?_⟩⟩,fun w0 hb0 hs => putRow_below m hb0 (by omega)⟩
    · rw [Go.Sort.size_putRow]
      exact (Array.getElem?_eq_some_iff.1 hg).1
    · have hj : j < l.reverse.length:=by
        have:=(List.getElem?_eq_some_iff.1 hx).1;rw [u8s_len] at this;exact this
      have hx2 : x = encB l.reverse[j]:=by
        unfold u8s at hx;rw [List.getElem?_map,List.getElem?_eq_getElem hj] at hx;injection hx with hx
        exact hx.symm
      have hH2 : Go.Sort.Holds encB (Go.Sort.ahead w m) g 0 l.toArray:=hH;have:=Go.Sort.cell?_putRow encB (Go.Sort.ahead w m) g 0 l.toArray l.reverse.toArray hH2 (by simp) j (by simpa using hj);rw [this,hx2]
      congr 2
      have hj2 : j < l.reverse.toArray.size:=by simpa using hj
      rw [getElem!_pos l.reverse.toArray j hj2];simp
end Go.Proofs.YtlgnijhemfkflaaGreatDoor

namespace Go.Proofs.YtlgnijhemfkflaaGreatDoor
open Go.RowKit


theorem leansUp_any (a b : Int) (w : World) :
    Calls Tryz.prog 206 #[.int .i64 a,.int .i64 b] w fun e w' => e = .returned (.bool (leans a b)) ∧ w = w':=by
  go_enter Tryz.func206,Tryz.ntmps206;go_wp2
  all_goals go_ret
  · exact ⟨ret_bool (by subst_vars; simp [leans]),rfl⟩
  · exact ⟨ret_bool (by simp [leans,bne]),rfl⟩
theorem size_any (a : Int) (w : World) (ha : cellR a) :
    Calls Tryz.prog 212 #[.int .i64 a] w fun e w' => e = .returned (.int .u64 (a.natAbs : Int)) ∧ w = w':=by
  have HA:=zqh ha;clear ha;go_enter Tryz.func212,Tryz.ntmps212;go_wp2
  all_goals go_ret
  all_goals exact ⟨ret_int (by have:=HA.out; unfold cellR at this; simp only [IntKind.wrap_u64]; omega),rfl⟩
theorem div_any (a b : Int) (w : World) (ha : cellR a) (hb : cellR b) :
    Calls Tryz.prog 85 #[.int .i64 a,.int .i64 b] w fun e w' => e = .returned (.tuple #[.int .i64 (dq a b),.int .i64 (dr a b),.int .i64 (dc b)]) ∧ Below w.heap.size w w':=by
  have HA:=zqh ha;have HB:=zqh hb;clear ha hb
  by_cases h : b = 0
  · have hb0 : (b == 0) = true:=by simp [h]
    have H:=zqh h;clear h;go_enter Tryz.func85,Tryz.ntmps85;go_wp2
    go_ret3
    exact ⟨ret_three (by simp [dq,H.out]) (by simp [dr,H.out]) (by simp [dc,H.out]),Below.refl _ _⟩
  · have hb0 : (b == 0) = false:=by simp [h]
    by_cases hl : leans (a.tmod b) b = true
    · go_enter Tryz.func85,Tryz.ntmps85
      go_wp2
      go_quiet (fail)
      (go_wp2_with (go_at_call 206; refine (leansUp_any _ _ _).mono ?_; rintro e w' ⟨rfl,rfl⟩))
      go_ret3
      exact ⟨ret_three (by simp [dq,h,hl]) (by rw [wrap_in (leans_sum a b h HB.out hl)]; simp [dr,h,hl]) (by simp [dc,h]),drew_below _ _⟩
    · replace hl : leans (a.tmod b) b = false:=by simpa using hl
      go_enter Tryz.func85,Tryz.ntmps85;go_wp2
      go_quiet (fail)
      (go_wp2_with (go_at_call 206; refine (leansUp_any _ _ _).mono ?_; rintro e w' ⟨rfl,rfl⟩))
      go_ret3
      exact ⟨ret_three (by simp [dq,h,hl]) (by simp [dr,h,hl]) (by simp [dc,h]),drew_below _ _⟩
end Go.Proofs.YtlgnijhemfkflaaGreatDoor
