/- Part 6. -/
import Derived.Test.YtlgnijhemfkflaaGreatDoorPartAE
import Derived.Laws.RangeAny
import Derived.Lib.OthersKept
set_option linter.unusedVariables false
set_option linter.unusedSimpArgs false
set_option maxRecDepth 100000
set_option maxHeartbeats 4000000

namespace Go.Proofs.YtlgnijhemfkflaaGreatDoor
open Go.RowKit


theorem isbase_any (b : Int) (w : World) : Calls Tryz.prog 237 #[.int .i64 b] w fun e w' => e = .returned (.bool (baseB b)) ∧ w = w':=by
  by_cases k1 : 2 ≤ b
  · by_cases k2 : b ≤ 36
    · have H : Hid (baseB b = true):=(baseB_iff b).2 ⟨k1,k2⟩
      go_enter Tryz.func237,Tryz.ntmps237;go_wp2;go_ret;exact ⟨ret_bool H.out.symm,rfl⟩
    · have k2' : decide (b ≤ 36) = false:=by simp; omega
      have H : Hid (baseB b = false):=(baseB_no b).2 (by omega);clear k2;go_enter Tryz.func237,Tryz.ntmps237;go_wp2;go_ret;exact ⟨ret_bool H.out.symm,rfl⟩
  · have k1' : decide (2 ≤ b) = false:=by simp; omega
    have H : Hid (baseB b = false):=(baseB_no b).2 (by omega);clear k1;go_enter Tryz.func237,Tryz.ntmps237;go_wp2;go_ret;exact ⟨ret_bool H.out.symm,rfl⟩
theorem nworth_any (c : Nat) (b : Int) (w : World) (hc : c ≤ 2147483647) :
    Calls Tryz.prog 307 #[.int .i32 (c : Int),.int .i64 b] w fun e w' => e = .returned (.tuple #[.int .i64 (worthF c b),.bool (isW c b)]) ∧ w = w':=by
  have hc' : (c : Int) ≤ 2147483647:=by omega
  rcases (by omega : c < 48 ∨ (48 ≤ c ∧ c ≤ 57) ∨ (57 < c ∧ c < 65) ∨ (65 ≤ c ∧ c ≤ 90) ∨ (90 < c ∧ c < 97) ∨ (97 ≤ c ∧ c ≤ 122) ∨ 122 < c) with h | h | h | h | h | h | h
  · skip
    have n48 : decide ((48 : Int) ≤ (c : Int)) = false:=by simp; omega
    have n65 : decide ((65 : Int) ≤ (c : Int)) = false:=by simp; omega
    have n97 : decide ((97 : Int) ≤ (c : Int)) = false:=by simp; omega
    have hv : Hid (((wN c : Nat) : Int) = 99):=by show _ = _; unfold wN; rw [if_neg (by omega),if_neg (by omega),if_neg (by omega)]; omega
    cases hb : baseB b with
    | false =>
      have hno:=(baseB_no b).1 hb;have H2 : Hid (isW c b = false):=(isW_no _ _).2 (by have:=hv.out; omega);have H1 : Hid (worthF c b = 0):=by show _ = _; unfold worthF; rw [H2.out]; rfl
      clear hno;go_enter Tryz.func307,Tryz.ntmps307;(go_wp2_with fail);refine (isbase_any b _).mono ?_;rw [hb];rintro e w1 ⟨rfl,rfl⟩;go_wp2;go_ret2;exact ⟨ret_ib H1.out.symm H2.out.symm,rfl⟩
    | true =>
      have hyes:=(baseB_iff b).1 hb
      by_cases k3 : b ≤ 36
      · skip
        have H2 : Hid (isW c b = false):=(isW_no _ _).2 (by have:=hv.out; omega);have H1 : Hid (worthF c b = 0):=by show _ = _; unfold worthF; rw [H2.out]; rfl
        clear hyes;go_enter Tryz.func307,Tryz.ntmps307;(go_wp2_with fail);refine (isbase_any b _).mono ?_;rw [hb];rintro e w1 ⟨rfl,rfl⟩;go_wp2;go_ret2;exact ⟨ret_ib H1.out.symm H2.out.symm,rfl⟩
      · exact absurd hyes.2 (by omega)
  · skip
    have g48 : (48 : Int) ≤ (c : Int):=by omega
    have l57 : (c : Int) ≤ 57:=by omega
    have n65 : decide ((65 : Int) ≤ (c : Int)) = false:=by simp; omega
    have n97 : decide ((97 : Int) ≤ (c : Int)) = false:=by simp; omega
    have hv : Hid (((wN c : Nat) : Int) = (c : Int) - 48):=by show _ = _; unfold wN; rw [if_pos h]; omega
    cases hb : baseB b with
    | false =>
      have hno:=(baseB_no b).1 hb;have H2 : Hid (isW c b = false):=(isW_no _ _).2 (by have:=hv.out; omega);have H1 : Hid (worthF c b = 0):=by show _ = _; unfold worthF; rw [H2.out]; rfl
      clear hno;go_enter Tryz.func307,Tryz.ntmps307;(go_wp2_with fail);refine (isbase_any b _).mono ?_;rw [hb];rintro e w1 ⟨rfl,rfl⟩;go_wp2;go_ret2;exact ⟨ret_ib H1.out.symm H2.out.symm,rfl⟩
    | true =>
      have hyes:=(baseB_iff b).1 hb
      by_cases k3 : b ≤ (c : Int) - 48
      · skip
        have H2 : Hid (isW c b = false):=(isW_no _ _).2 (by have:=hv.out; omega);have H1 : Hid (worthF c b = 0):=by show _ = _; unfold worthF; rw [H2.out]; rfl
        clear hyes;go_enter Tryz.func307,Tryz.ntmps307;(go_wp2_with fail);refine (isbase_any b _).mono ?_;rw [hb];rintro e w1 ⟨rfl,rfl⟩;go_wp2;go_ret2;exact ⟨ret_ib H1.out.symm H2.out.symm,rfl⟩
      · have k3' : decide (b ≤ (c : Int) - 48) = false:=by simp; omega
        have H2 : Hid (isW c b = true):=(isW_iff _ _).2 (by have:=hv.out; omega);have H1 : Hid (worthF c b = (c : Int) - 48):=by show _ = _; unfold worthF; rw [H2.out]; exact hv.out
        clear hyes k3;go_enter Tryz.func307,Tryz.ntmps307;(go_wp2_with fail);refine (isbase_any b _).mono ?_;rw [hb];rintro e w1 ⟨rfl,rfl⟩;go_wp2;go_ret2;exact ⟨ret_ib H1.out.symm H2.out.symm,rfl⟩
  · skip
    have g48 : (48 : Int) ≤ (c : Int):=by omega
    have m57 : decide ((c : Int) ≤ 57) = false:=by simp; omega
    have n65 : decide ((65 : Int) ≤ (c : Int)) = false:=by simp; omega
    have n97 : decide ((97 : Int) ≤ (c : Int)) = false:=by simp; omega
    have hv : Hid (((wN c : Nat) : Int) = 99):=by show _ = _; unfold wN; rw [if_neg (by omega),if_neg (by omega),if_neg (by omega)]; omega
    cases hb : baseB b with
    | false =>
      have hno:=(baseB_no b).1 hb;have H2 : Hid (isW c b = false):=(isW_no _ _).2 (by have:=hv.out; omega);have H1 : Hid (worthF c b = 0):=by show _ = _; unfold worthF; rw [H2.out]; rfl
      clear hno;go_enter Tryz.func307,Tryz.ntmps307;(go_wp2_with fail);refine (isbase_any b _).mono ?_;rw [hb];rintro e w1 ⟨rfl,rfl⟩;go_wp2;go_ret2;exact ⟨ret_ib H1.out.symm H2.out.symm,rfl⟩
    | true =>
      have hyes:=(baseB_iff b).1 hb
      by_cases k3 : b ≤ 36
      · skip
        have H2 : Hid (isW c b = false):=(isW_no _ _).2 (by have:=hv.out; omega);have H1 : Hid (worthF c b = 0):=by show _ = _; unfold worthF; rw [H2.out]; rfl
        clear hyes;go_enter Tryz.func307,Tryz.ntmps307;(go_wp2_with fail);refine (isbase_any b _).mono ?_;rw [hb];rintro e w1 ⟨rfl,rfl⟩;go_wp2;go_ret2;exact ⟨ret_ib H1.out.symm H2.out.symm,rfl⟩
      · exact absurd hyes.2 (by omega)
  · skip
    have g48 : (48 : Int) ≤ (c : Int):=by omega
    have m57 : decide ((c : Int) ≤ 57) = false:=by simp; omega
    have g65 : (65 : Int) ≤ (c : Int):=by omega
    have l90 : (c : Int) ≤ 90:=by omega
    have n97 : decide ((97 : Int) ≤ (c : Int)) = false:=by simp; omega
    have hv : Hid (((wN c : Nat) : Int) = (c : Int) - 65 + 10):=by show _ = _; unfold wN; rw [if_neg (by omega),if_pos h]; omega
    cases hb : baseB b with
    | false =>
      have hno:=(baseB_no b).1 hb;have H2 : Hid (isW c b = false):=(isW_no _ _).2 (by have:=hv.out; omega);have H1 : Hid (worthF c b = 0):=by show _ = _; unfold worthF; rw [H2.out]; rfl
      clear hno;go_enter Tryz.func307,Tryz.ntmps307;(go_wp2_with fail);refine (isbase_any b _).mono ?_;rw [hb];rintro e w1 ⟨rfl,rfl⟩;go_wp2;go_ret2;exact ⟨ret_ib H1.out.symm H2.out.symm,rfl⟩
    | true =>
      have hyes:=(baseB_iff b).1 hb
      by_cases k3 : b ≤ (c : Int) - 65 + 10
      · skip
        have H2 : Hid (isW c b = false):=(isW_no _ _).2 (by have:=hv.out; omega);have H1 : Hid (worthF c b = 0):=by show _ = _; unfold worthF; rw [H2.out]; rfl
        clear hyes;go_enter Tryz.func307,Tryz.ntmps307;(go_wp2_with fail);refine (isbase_any b _).mono ?_;rw [hb];rintro e w1 ⟨rfl,rfl⟩;go_wp2;go_ret2;exact ⟨ret_ib H1.out.symm H2.out.symm,rfl⟩
      · have k3' : decide (b ≤ (c : Int) - 65 + 10) = false:=by simp; omega
        have H2 : Hid (isW c b = true):=(isW_iff _ _).2 (by have:=hv.out; omega);have H1 : Hid (worthF c b = (c : Int) - 65 + 10):=by show _ = _; unfold worthF; rw [H2.out]; exact hv.out
        clear hyes k3;go_enter Tryz.func307,Tryz.ntmps307;(go_wp2_with fail);refine (isbase_any b _).mono ?_;rw [hb];rintro e w1 ⟨rfl,rfl⟩;go_wp2;go_ret2;exact ⟨ret_ib H1.out.symm H2.out.symm,rfl⟩
  · skip
    have g48 : (48 : Int) ≤ (c : Int):=by omega
    have m57 : decide ((c : Int) ≤ 57) = false:=by simp; omega
    have g65 : (65 : Int) ≤ (c : Int):=by omega
    have m90 : decide ((c : Int) ≤ 90) = false:=by simp; omega
    have n97 : decide ((97 : Int) ≤ (c : Int)) = false:=by simp; omega
    have hv : Hid (((wN c : Nat) : Int) = 99):=by show _ = _; unfold wN; rw [if_neg (by omega),if_neg (by omega),if_neg (by omega)]; omega
    cases hb : baseB b with
    | false =>
      have hno:=(baseB_no b).1 hb;have H2 : Hid (isW c b = false):=(isW_no _ _).2 (by have:=hv.out; omega);have H1 : Hid (worthF c b = 0):=by show _ = _; unfold worthF; rw [H2.out]; rfl
      clear hno;go_enter Tryz.func307,Tryz.ntmps307;(go_wp2_with fail);refine (isbase_any b _).mono ?_;rw [hb];rintro e w1 ⟨rfl,rfl⟩;go_wp2;go_ret2;exact ⟨ret_ib H1.out.symm H2.out.symm,rfl⟩
    | true =>
      have hyes:=(baseB_iff b).1 hb
      by_cases k3 : b ≤ 36
      · skip
        have H2 : Hid (isW c b = false):=(isW_no _ _).2 (by have:=hv.out; omega);have H1 : Hid (worthF c b = 0):=by show _ = _; unfold worthF; rw [H2.out]; rfl
        clear hyes;go_enter Tryz.func307,Tryz.ntmps307;(go_wp2_with fail);refine (isbase_any b _).mono ?_;rw [hb];rintro e w1 ⟨rfl,rfl⟩;go_wp2;go_ret2;exact ⟨ret_ib H1.out.symm H2.out.symm,rfl⟩
      · exact absurd hyes.2 (by omega)
  · skip
    have g48 : (48 : Int) ≤ (c : Int):=by omega
    have m57 : decide ((c : Int) ≤ 57) = false:=by simp; omega
    have g65 : (65 : Int) ≤ (c : Int):=by omega
    have m90 : decide ((c : Int) ≤ 90) = false:=by simp; omega
    have g97 : (97 : Int) ≤ (c : Int):=by omega
    have l122 : (c : Int) ≤ 122:=by omega
    have hv : Hid (((wN c : Nat) : Int) = (c : Int) - 97 + 10):=by show _ = _; unfold wN; rw [if_neg (by omega),if_neg (by omega),if_pos h]; omega
    cases hb : baseB b with
    | false =>
      have hno:=(baseB_no b).1 hb;have H2 : Hid (isW c b = false):=(isW_no _ _).2 (by have:=hv.out; omega);have H1 : Hid (worthF c b = 0):=by show _ = _; unfold worthF; rw [H2.out]; rfl
      clear hno;go_enter Tryz.func307,Tryz.ntmps307;(go_wp2_with fail);refine (isbase_any b _).mono ?_;rw [hb];rintro e w1 ⟨rfl,rfl⟩;go_wp2;go_ret2;exact ⟨ret_ib H1.out.symm H2.out.symm,rfl⟩
    | true =>
      have hyes:=(baseB_iff b).1 hb
      by_cases k3 : b ≤ (c : Int) - 97 + 10
      · skip
        have H2 : Hid (isW c b = false):=(isW_no _ _).2 (by have:=hv.out; omega);have H1 : Hid (worthF c b = 0):=by show _ = _; unfold worthF; rw [H2.out]; rfl
        clear hyes;go_enter Tryz.func307,Tryz.ntmps307;(go_wp2_with fail);refine (isbase_any b _).mono ?_;rw [hb];rintro e w1 ⟨rfl,rfl⟩;go_wp2;go_ret2;exact ⟨ret_ib H1.out.symm H2.out.symm,rfl⟩
      · have k3' : decide (b ≤ (c : Int) - 97 + 10) = false:=by simp; omega
        have H2 : Hid (isW c b = true):=(isW_iff _ _).2 (by have:=hv.out; omega);have H1 : Hid (worthF c b = (c : Int) - 97 + 10):=by show _ = _; unfold worthF; rw [H2.out]; exact hv.out
        clear hyes k3;go_enter Tryz.func307,Tryz.ntmps307;(go_wp2_with fail);refine (isbase_any b _).mono ?_;rw [hb];rintro e w1 ⟨rfl,rfl⟩;go_wp2;go_ret2;exact ⟨ret_ib H1.out.symm H2.out.symm,rfl⟩
  · skip
    have g48 : (48 : Int) ≤ (c : Int):=by omega
    have m57 : decide ((c : Int) ≤ 57) = false:=by simp; omega
    have g65 : (65 : Int) ≤ (c : Int):=by omega
    have m90 : decide ((c : Int) ≤ 90) = false:=by simp; omega
    have g97 : (97 : Int) ≤ (c : Int):=by omega
    have m122 : decide ((c : Int) ≤ 122) = false:=by simp; omega
    have hv : Hid (((wN c : Nat) : Int) = 99):=by show _ = _; unfold wN; rw [if_neg (by omega),if_neg (by omega),if_neg (by omega)]; omega
    cases hb : baseB b with
    | false =>
      have hno:=(baseB_no b).1 hb;have H2 : Hid (isW c b = false):=(isW_no _ _).2 (by have:=hv.out; omega);have H1 : Hid (worthF c b = 0):=by show _ = _; unfold worthF; rw [H2.out]; rfl
      clear hno;go_enter Tryz.func307,Tryz.ntmps307;(go_wp2_with fail);refine (isbase_any b _).mono ?_;rw [hb];rintro e w1 ⟨rfl,rfl⟩;go_wp2;go_ret2;exact ⟨ret_ib H1.out.symm H2.out.symm,rfl⟩
    | true =>
      have hyes:=(baseB_iff b).1 hb
      by_cases k3 : b ≤ 36
      · skip
        have H2 : Hid (isW c b = false):=(isW_no _ _).2 (by have:=hv.out; omega);have H1 : Hid (worthF c b = 0):=by show _ = _; unfold worthF; rw [H2.out]; rfl
        clear hyes;go_enter Tryz.func307,Tryz.ntmps307;(go_wp2_with fail);refine (isbase_any b _).mono ?_;rw [hb];rintro e w1 ⟨rfl,rfl⟩;go_wp2;go_ret2;exact ⟨ret_ib H1.out.symm H2.out.symm,rfl⟩
      · exact absurd hyes.2 (by omega)
theorem worth_any (c : Nat) (b : Int) (w : World) (hc : c < 256) :
    Calls Tryz.prog 300 #[.int .u8 (c : Int),.int .i64 b] w fun e w' => e = .returned (.tuple #[.int .i64 (worthF c b),.bool (isW c b)]) ∧ Below w.heap.size w w':=by
  have hc' : (c : Int) < 256:=by omega
  have HC:=zqh hc;clear hc;go_enter Tryz.func300,Tryz.ntmps300;(go_wp2_with fail);refine (nworth_any c b _ (by have:=HC.out; omega)).mono ?_;rintro e w1 ⟨rfl,rfl⟩;go_wp2;go_ret2;exact ⟨rfl,Below.refl _ _⟩
theorem digit_any (n : Int) (w : World) :
    Calls Tryz.prog 238 #[.int .i64 n] w fun e w' => e = .returned (.int .u8 (digF n)) ∧ Below w.heap.size w w':=by
  by_cases h0 : 0 ≤ n
  · by_cases h9 : n < 10
    · have H : Hid (digF n = 48 + n):=by
        show _ = _;unfold digF digN;rw [if_pos h0,if_pos (by omega)];omega
      go_enter Tryz.func238,Tryz.ntmps238;go_wp2;go_ret;exact ⟨ret_int H.out.symm,Below.refl _ _⟩
    · have h9' : decide (n < 10) = false:=by simp; omega
      have h10 : 10 ≤ n:=by omega
      by_cases h35 : n < 36
      · have H : Hid (digF n = 65 + n - 10):=by
          show _ = _;unfold digF digN;rw [if_pos h0,if_neg (by omega),if_pos (by omega)];omega
        clear h9;go_enter Tryz.func238,Tryz.ntmps238;go_wp2;go_ret;exact ⟨ret_int H.out.symm,Below.refl _ _⟩
      · have h35' : decide (n < 36) = false:=by simp; omega
        have H : Hid (digF n = 63):=by
          show _ = _;unfold digF digN;rw [if_pos h0,if_neg (by omega),if_neg (by omega)];rfl
        clear h9 h35;go_enter Tryz.func238,Tryz.ntmps238;go_wp2;go_ret;exact ⟨ret_int H.out.symm,Below.refl _ _⟩
  · have h0' : decide (0 ≤ n) = false:=by simp; omega
    have h10' : decide (10 ≤ n) = false:=by simp; omega
    have H : Hid (digF n = 63):=by
      show _ = _;unfold digF;rw [if_neg h0]
    clear h0;go_enter Tryz.func238,Tryz.ntmps238;go_wp2;go_ret;exact ⟨ret_int H.out.symm,Below.refl _ _⟩
end Go.Proofs.YtlgnijhemfkflaaGreatDoor

namespace Go.Proofs.YtlgnijhemfkflaaGreatDoor
open Go.RowKit


def WInv (R u rest : List UInt8) : Prop:=(u = [] → wordW R = wordW rest ∧ wordT R = wordT rest) ∧ (u ≠ [] → wordW R = u ++ rest.takeWhile solid ∧ wordT R = (rest.dropWhile solid).drop 1)
theorem WInv.first (R : List UInt8) : WInv R [] R:=⟨fun _ => ⟨rfl,rfl⟩,fun h => absurd rfl h⟩
theorem WInv.sign {R u rest : List UInt8} {c : UInt8} (h : WInv R u (c :: rest)) (hc : solid c = true) : WInv R (u ++ [c]) rest:=by
  refine ⟨fun e => by simp at e,fun _ => ?_⟩
  by_cases hu : u = []
  · obtain ⟨h1,h2⟩:=h.1 hu
    rw [h1,h2,hu];unfold wordW wordT;rw [if_pos hc,if_pos hc];exact ⟨rfl,rfl⟩
  · obtain ⟨h1,h2⟩:=h.2 hu
    rw [h1,h2,List.takeWhile_cons,List.dropWhile_cons,if_pos hc,if_pos hc];simp
theorem WInv.skip {R rest : List UInt8} {c : UInt8} (h : WInv R [] (c :: rest)) (hc : solid c = false) : WInv R [] rest:=by
  refine ⟨fun _ => ?_,fun e => absurd rfl e⟩;obtain ⟨h1,h2⟩:=h.1 rfl;rw [h1,h2]
  conv => lhs; lhs; unfold wordW
  conv => rhs; lhs; unfold wordT
  rw [if_neg (by simp [hc]),if_neg (by simp [hc])];exact ⟨rfl,rfl⟩
theorem WInv.last {R u : List UInt8} (h : WInv R u []) : wordW R = u ∧ wordT R = []:=by
  by_cases hu : u = []
  · obtain ⟨h1,h2⟩:=h.1 hu
    rw [h1,h2,hu];exact ⟨rfl,rfl⟩
  · obtain ⟨h1,h2⟩:=h.2 hu
    rw [h1,h2];simp
theorem str_toList (l : List UInt8) : (strB l).toList = l:=by
  rw [ByteArray.toList_eq]; rfl
def UInv (R : List UInt8) (c : UInt8) (m : Nat) : Prop:=uptoW R c = R.take m ++ uptoW (R.drop m) c ∧ (c ∈ R ↔ c ∈ R.drop m)
theorem UInv.first (R : List UInt8) (c : UInt8) : UInv R c 0:=⟨by simp,by simp⟩
theorem UInv.on {R : List UInt8} {c x : UInt8} {m : Nat} (h : UInv R c m) (hx : R[m]? = some x) (hne : x ≠ c) : UInv R c (m + 1):=by
  have hm:=(List.getElem?_eq_some_iff.1 hx).1;have e : R.drop m = x :: R.drop (m + 1):=by rw [List.drop_eq_getElem_cons hm,(List.getElem?_eq_some_iff.1 hx).2]
  obtain ⟨h1,h2⟩:=h;rw [e] at h1 h2;refine ⟨?_,?_⟩
  · rw [h1,List.take_add_one,hx]
    unfold uptoW;rw [List.takeWhile_cons,if_pos (by unfold notC; simpa using hne)];simp
  · rw [h2]
    simp;intro e;exact absurd e.symm hne
theorem UInv.no {R : List UInt8} {c : UInt8} {m : Nat} (h : UInv R c m) (hm : R.length ≤ m) : uptoW R c = R ∧ ¬ c ∈ R:=by
  obtain ⟨h1,h2⟩:=h;rw [List.drop_eq_nil_of_le hm] at h1 h2;refine ⟨?_,fun hc => by simpa using h2.1 hc⟩;rw [h1,List.take_of_length_le hm];simp [uptoW]
def Rem (l R : List UInt8) : Prop:=∃ k,k ≤ l.length ∧ R = l.drop k
theorem Rem.all (l : List UInt8) : Rem l l:=⟨0,Nat.zero_le _,rfl⟩
theorem Rem.le {l R : List UInt8} (h : Rem l R) : R.length ≤ l.length:=by
  obtain ⟨k,hk,rfl⟩:=h;rw [List.length_drop];omega
theorem Rem.drop {l R : List UInt8} (h : Rem l R) : l.drop (l.length - R.length) = R:=by
  obtain ⟨k,hk,rfl⟩:=h;rw [List.length_drop]
  congr 1
  omega
end Go.Proofs.YtlgnijhemfkflaaGreatDoor

namespace Go.Proofs.YtlgnijhemfkflaaGreatDoor
open Go.RowKit


def namedC (nm : List UInt8) : Int:=if nm = [] then -16 else if 31 < nm.length then -19 else if nm.all solid = true then 0 else -32
def flagB (f : Int) : Bool:=decide (0 ≤ f ∧ f ≤ 7)
theorem flagB_iff (f : Int) : flagB f = true ↔ (0 ≤ f ∧ f ≤ 7):=by unfold flagB; simp
theorem flagB_no (f : Int) : flagB f = false ↔ ¬ (0 ≤ f ∧ f ≤ 7):=by unfold flagB; rw [decide_eq_false_iff_not]
def wordB (q : Wr) : Bool:=decide (namedC q.nm = 0) && flagB q.fl
def dRight (l : List Wr) : Bool:=l.all wordB && decide (l.length ≤ 1024)
def dSame (a b : List Wr) : Bool:=decide (a = b)
def dFew (l : List Wr) (most : Int) : Bool:=decide ((l.length : Int) ≤ most) && l.all fun q => decide (q.nm.length ≤ 60)
def w0 : Wr:=⟨[],0,0⟩
end Go.Proofs.YtlgnijhemfkflaaGreatDoor

namespace Go.Proofs.YtlgnijhemfkflaaGreatDoor
open Go.RowKit


theorem dall_take {p : UInt8 → Bool} {l : List UInt8} {k : Nat} {c : UInt8} (h : (l.take k).all p = true) (hc : l[k]? = some c) (hp : p c = true) : (l.take (k + 1)).all p = true:=by
  rw [List.take_add_one,hc,List.all_append,h];simp [hp]
theorem dall_no {p : UInt8 → Bool} {l : List UInt8} {k : Nat} {c : UInt8} (hc : l[k]? = some c) (hp : p c = false) : l.all p = false:=by
  rw [List.all_eq_false];exact ⟨c,List.mem_of_getElem? hc,by simp [hp]⟩
theorem rnamed_any (l : List UInt8) (w : World) : Calls Tryz.prog 71 #[.string (strB l)] w fun e w' => e = .returned (.int .i64 (namedC l)) ∧ w = w':=by
  have hsz : (strB l).size = l.length:=rfl
  by_cases h0 : l = []
  · have H : Hid (namedC l = -16):=by show _ = _; unfold namedC; rw [if_pos h0]
    rw [H.out];subst h0;have hsz0 : (strB []).size = 0:=rfl;clear hsz;go_enter Tryz.func71,Tryz.ntmps71;go_wp2;go_ret;exact ⟨rfl,rfl⟩
  · have hl0 : ((l.length : Int) == 0) = false:=by
      cases l with
      | nil => exact absurd rfl h0
      | cons c r => simp; omega
    by_cases h31 : 31 < l.length
    · have H : Hid (namedC l = -19):=by show _ = _; unfold namedC; rw [if_neg h0,if_pos h31]
      rw [H.out];have h31' : (31 : Int) < (l.length : Int):=by omega
      clear h0 h31;go_enter Tryz.func71,Tryz.ntmps71;go_wp2;go_ret;exact ⟨rfl,rfl⟩
    · have h31' : decide ((31 : Int) < (l.length : Int)) = false:=by simp; omega
      have hl31 : l.length ≤ 31:=by omega
      have HC : Hid (namedC l = if l.all solid = true then 0 else -32):=by show _ = _; unfold namedC; rw [if_neg h0,if_neg h31]
      clear h0 h31;go_enter Tryz.func71,Tryz.ntmps71;(go_wp2_with fail)
      go_loopw [3] (fun s3 wr => ∃ (k : Nat),s3 = .int .i64 (k : Int) ∧ k ≤ l.length ∧ Hid ((l.take k).all solid = true) ∧ w = wr) (fun s3 _ => l.length - (intOf s3).toNat)
      case atStart => exact ⟨0,rfl,Nat.zero_le _,zqh rfl,rfl⟩
      case round =>
        obtain ⟨k,rfl,hk,HT,rfl⟩:=hrel
        by_cases hkl : k < l.length
        · have hkl' : (k : Int) < (l.length : Int):=by omega
          obtain ⟨c,hc⟩ : ∃ c,l[k]? = some c:=⟨_,List.getElem?_eq_getElem hkl⟩;have ixk:=ix_at l k c hc
          by_cases h32 : 32 < c.toNat
          · have h32' : decide ((c.toNat : Int) ≤ 32) = false:=by simp; omega
            have HN:=zqh (dall_take HT.out hc (solid_yes h32));clear hc h32 HT;(go_wp2_with fail)
            go_roundw
            case rel => exact ⟨k + 1,by simp,by omega,HN,(by first | rfl | trivial)⟩
            case measure => simp [intOf]; omega
          · have h32' : (c.toNat : Int) ≤ 32:=by omega
            have HN:=zqh (dall_no hc (solid_no h32));have H : Hid (namedC l = -32):=by show _ = _; rw [HC.out,HN.out]; rfl
            clear hc h32 HT;(go_wp2_with fail);go_ret;exact ⟨by rw [H.out]; rfl,rfl⟩
        · obtain rfl : k = l.length:=by omega
          rw [List.take_length] at HT;have H : Hid (namedC l = 0):=by show _ = _; rw [HC.out,HT.out]; rfl
          clear hkl hk;(go_wp2_with fail);go_ret;exact ⟨by rw [H.out]; rfl,rfl⟩
theorem rfew_any (A : Option Addr) (n c : Nat) (l : List Wr) (most : Int) (w : World) (h : Wds w (.slice A n c) l) (hmost : most ≤ 1000) : Calls Tryz.prog 43 #[.slice A n c,.int .i64 most] w fun e w' => e = .returned (.bool (dFew l most)) ∧ Below w.heap.size w w':=by
  have hl:=h.len;subst hl
  by_cases hm : most < (l.length : Int)
  · have H : Hid (dFew l most = false):=by show _ = _; unfold dFew; rw [show decide ((l.length : Int) ≤ most) = false by simp; omega]; rfl
    rw [H.out];clear h;go_enter Tryz.func43,Tryz.ntmps43;go_wp2;go_ret;exact ⟨rfl,Below.refl _ _⟩
  · have hm' : decide (most < (l.length : Int)) = false:=by simp; omega
    have hln : l.length ≤ 1000:=by omega
    have HF : Hid (dFew l most = l.all fun q => decide (q.nm.length ≤ 60)):=by show _ = _; unfold dFew; rw [show decide ((l.length : Int) ≤ most) = true by simp; omega]; rfl
    have HA:=zqh h;clear h hm;go_enter Tryz.func43,Tryz.ntmps43;(go_wp2_with fail)
    go_loopw [5] (fun s5 wr => ∃ (k : Nat),s5 = .int .i64 (k : Int) ∧ k ≤ l.length ∧ Hid ((l.take k).all (fun q => decide (q.nm.length ≤ 60)) = true) ∧ Hid (Below w.heap.size w wr)) (fun s5 _ => l.length - (intOf s5).toNat)
    case atStart => exact ⟨0,rfl,Nat.zero_le _,zqh rfl,zqh (Below.refl _ _)⟩
    case round =>
      obtain ⟨k,rfl,hk,HT,HB⟩:=hrel
      by_cases hkl : k < l.length
      · have hkl' : (k : Int) < (l.length : Int):=by omega
        obtain ⟨g,o,hA,c1,c2,c3⟩:=wds_cell (HA.out.keep HB.out) hkl;have hx : l[k]? = some l[k]:=List.getElem?_eq_getElem hkl;obtain ⟨q,eq⟩ : ∃ q,l[k] = q:=⟨_,rfl⟩;rw [eq] at c1 c2 c3 hx;have hqs : (strB q.nm).size = q.nm.length:=rfl;subst hA
        by_cases h60 : 60 < q.nm.length
        · have h60' : (60 : Int) < (q.nm.length : Int):=by omega
          have H : Hid (dFew l most = false):=by
            show _ = _;rw [HF.out,List.all_eq_false];exact ⟨q,List.mem_of_getElem? hx,by simp; omega⟩
          clear hx eq h60 HT;(go_wp2_with fail);go_ret;exact ⟨by rw [H.out]; rfl,HB.out⟩
        · have h60' : decide ((60 : Int) < (q.nm.length : Int)) = false:=by simp; omega
          have HN : Hid ((l.take (k + 1)).all (fun q => decide (q.nm.length ≤ 60)) = true):=by
            show _ = _;rw [List.take_add_one,hx,List.all_append,HT.out];simp;omega
          clear hx eq h60 HT;(go_wp2_with fail)
          go_roundw
          case rel => exact ⟨k + 1,by simp,by omega,HN,HB⟩
          case measure => simp [intOf]; omega
      · obtain rfl : k = l.length:=by omega
        rw [List.take_length] at HT;have H : Hid (dFew l most = true):=by show _ = _; rw [HF.out,HT.out]
        clear hkl hk;(go_wp2_with fail);go_ret;exact ⟨by rw [H.out]; rfl,HB.out⟩
end Go.Proofs.YtlgnijhemfkflaaGreatDoor

namespace Go.Proofs.YtlgnijhemfkflaaGreatDoor
open Go.RowKit


def WBox (w : World) (b : Nat) (q : Wr) : Prop:=w.heap[b]? = some (.cells #[.string (strB q.nm),.int .i64 q.xt,.int .i64 q.fl] 120 (0,0))
theorem WBox.lt {w : World} {b : Nat} {q : Wr} (h : WBox w b q) : b < w.heap.size:=(Array.getElem?_eq_some_iff.1 h).1
theorem WBox.keep {w w' : World} {b : Nat} {q : Wr} (h : WBox w b q) (k : Below w.heap.size w w') : WBox w' b q:=(k.block b h.lt).trans h
theorem WBox.use {w : World} {b : Nat} {q : Wr} (h : WBox w b q) : w.cell? ⟨b,0,none⟩ = some (.string (strB q.nm)) ∧ w.cell? ⟨b,1,none⟩ = some (.int .i64 q.xt) ∧ w.cell? ⟨b,2,none⟩ = some (.int .i64 q.fl) ∧ w.frozen? ⟨b,0,none⟩ = false ∧ w.frozen? ⟨b,1,none⟩ = false ∧ w.frozen? ⟨b,2,none⟩ = false:=by
  unfold WBox at h;refine ⟨?_,?_,?_,?_,?_,?_⟩ <;> simp [World.cell?,World.frozen?,h]
theorem WBox.put {w : World} {b : Nat} {q : Wr} (h : WBox w b q) (q' : Wr) : WBox (((w.setCell ⟨b,0,none⟩ (.string (strB q'.nm))).setCell ⟨b,1,none⟩ (.int .i64 q'.xt)).setCell ⟨b,2,none⟩ (.int .i64 q'.fl)) b q':=by
  have h1:=Go.Joins.block_setCell (i:=0) h (.string (strB q'.nm));have h2:=Go.Joins.block_setCell (i:=1) h1 (.int .i64 q'.xt);have h3:=Go.Joins.block_setCell (i:=2) h2 (.int .i64 q'.fl);simpa [WBox] using h3
end Go.Proofs.YtlgnijhemfkflaaGreatDoor

namespace Go.Proofs.YtlgnijhemfkflaaGreatDoor
open Go.RowKit


theorem right_no {l : List Wr} {q : Wr} (hq : q ∈ l) (h : wordB q = false) : dRight l = false:=by
  unfold dRight;rw [show l.all wordB = false from by rw [List.all_eq_false]; exact ⟨q,hq,by simp [h]⟩];rfl
theorem rright_anyL (A : Option Addr) (n c : Nat) (l : List Wr) (w : World) (h : Wds w (.slice A n c) l) (hn : n ≤ 1000000) : Calls Tryz.prog 39 #[.slice A n c] w fun e w' => e = .returned (.bool (dRight l)) ∧ Below w.heap.size w w':=by
  have hl:=h.len;subst hl;have HA:=zqh h;clear h;go_enter Tryz.func39,Tryz.ntmps39;(go_wp2_with fail)
  go_loopw [3] (fun s5 wr => ∃ (k : Nat),s5 = .int .i64 (k : Int) ∧ k ≤ l.length ∧ Hid ((l.take k).all wordB = true) ∧ Hid (Below w.heap.size w wr)) (fun s5 _ => l.length - (intOf s5).toNat)
  case atStart => exact ⟨0,rfl,Nat.zero_le _,zqh rfl,zqh (Below.refl _ _)⟩
  case round =>
    obtain ⟨k,rfl,hk,HT,HB⟩:=hrel
    by_cases hkl : k < l.length
    · have hkl' : (k : Int) < (l.length : Int):=by omega
      obtain ⟨g,o,hA,c1,c2,c3⟩:=wds_cell (HA.out.keep HB.out) hkl;have hx : l[k]? = some l[k]:=List.getElem?_eq_getElem hkl;obtain ⟨q,eq⟩ : ∃ q,l[k] = q:=⟨_,rfl⟩;rw [eq] at c1 c2 c3 hx;have HQ:=zqh (List.mem_of_getElem? hx);have HX:=zqh hx;have HN:=zqh (fun w => rnamed_any q.nm w);obtain ⟨z,ez⟩ : ∃ z,namedC q.nm = z:=⟨_,rfl⟩;have HZ:=zqh ez;rw [ez] at HN;subst hA;clear hx eq ez
      by_cases hz : z = 0
      · subst hz
        by_cases h0 : q.fl < 0
        · have H : Hid (dRight l = false):=right_no HQ.out (by unfold wordB; rw [(flagB_no _).2 (by omega),Bool.and_false])
          clear HT;(go_wp2_with fail);refine (HN.out _).mono ?_;rintro e1 w5 ⟨rfl,rfl⟩;(go_wp2_with fail);go_ret;exact ⟨by rw [H.out]; rfl,HB.out⟩
        · have h0' : decide (q.fl < 0) = false:=by simp; omega
          by_cases h7 : 7 < q.fl
          · have H : Hid (dRight l = false):=right_no HQ.out (by unfold wordB; rw [(flagB_no _).2 (by omega),Bool.and_false])
            clear HT h0;(go_wp2_with fail);refine (HN.out _).mono ?_;rintro e1 w5 ⟨rfl,rfl⟩;(go_wp2_with fail);go_ret;exact ⟨by rw [H.out]; rfl,HB.out⟩
          · have h7' : decide (7 < q.fl) = false:=by simp; omega
            have HW : Hid (wordB q = true):=by show _ = _; unfold wordB; rw [(flagB_iff _).2 (by omega),HZ.out]; rfl
            have HT2 : Hid ((l.take (k + 1)).all wordB = true):=by
              show _ = _;rw [List.take_add_one,HX.out,List.all_append,HT.out];simp [HW.out]
            clear HT h0 h7;(go_wp2_with fail);refine (HN.out _).mono ?_;rintro e1 w5 ⟨rfl,rfl⟩;(go_wp2_with fail)
            go_roundw
            case rel => exact ⟨k + 1,by simp,by omega,HT2,HB⟩
            case measure => simp [intOf]; omega
      · have H : Hid (dRight l = false):=right_no HQ.out (by unfold wordB; rw [HZ.out]; simp [hz])
        have hz1 : ((z : Int) != 0) = true:=by simpa using hz
        have hz2 : ((z : Int) == 0) = false:=by simpa using hz
        clear HT;(go_wp2_with fail);refine (HN.out _).mono ?_;rintro e1 w5 ⟨rfl,rfl⟩;(go_wp2_with fail);go_ret;exact ⟨by rw [H.out]; rfl,HB.out⟩
    · obtain rfl : k = l.length:=by omega
      rw [List.take_length] at HT;have H : Hid (dRight l = decide ((l.length : Int) ≤ 1024)):=by
        show _ = _;unfold dRight;rw [HT.out,Bool.true_and,decide_eq_decide];omega
      clear hkl hk;(go_wp2_with fail);go_ret;exact ⟨by rw [H.out]; rfl,HB.out⟩
theorem dsame_no {a b : List Wr} {k : Nat} {x y : Wr} (hx : a[k]? = some x) (hy : b[k]? = some y) (hne : x ≠ y) : dSame a b = false:=by
  unfold dSame;rw [decide_eq_false_iff_not];intro e;rw [e,hy] at hx;injection hx with hx
  exact hne hx.symm
theorem rsame9_any (A A' : Option Addr) (n c n' c' : Nat) (a b : List Wr) (w : World) (h : Wds w (.slice A n c) a) (h' : Wds w (.slice A' n' c') b) (ha : a.length ≤ 1000000) :
    Calls Tryz.prog 33 #[.slice A n c,.slice A' n' c'] w fun e w' => e = .returned (.bool (dSame a b)) ∧ Below w.heap.size w w':=by
  have ea:=h.len;have eb:=h'.len;subst ea eb
  by_cases hl : a.length = b.length
  · have hl' : ((a.length : Int) != (b.length : Int)) = false:=by simp [hl]
    have hl2 : ((a.length : Int) == (b.length : Int)) = true:=by simp [hl]
    have HA:=zqh h;have HB:=zqh h';have HLN:=zqh hl;clear h h' hl;go_enter Tryz.func33,Tryz.ntmps33;(go_wp2_with fail)
    go_loopw [5] (fun s5 wr => ∃ (k : Nat),s5 = .int .i64 (k : Int) ∧ k ≤ a.length ∧ Hid (a.take k = b.take k) ∧ Hid (Below w.heap.size w wr)) (fun s5 _ => a.length - (intOf s5).toNat)
    case atStart => exact ⟨0,rfl,Nat.zero_le _,zqh rfl,zqh (Below.refl _ _)⟩
    case round =>
      obtain ⟨k,rfl,hk,HT,HW⟩:=hrel
      by_cases hka : k < a.length
      · have hkb : k < b.length:=by have:=HLN.out; omega
        have hka' : (k : Int) < (a.length : Int):=by omega
        have hkb' : (k : Int) < (b.length : Int):=by omega
        obtain ⟨g,o,hA,c1,c2,c3⟩:=wds_cell (HA.out.keep HW.out) hka;obtain ⟨g',o',hA',d1,d2,d3⟩:=wds_cell (HB.out.keep HW.out) hkb;have hx:=List.getElem?_eq_getElem hka;have hy:=List.getElem?_eq_getElem hkb;obtain ⟨x,ex⟩ : ∃ x,a[k] = x:=⟨_,rfl⟩;obtain ⟨y,ey⟩ : ∃ y,b[k] = y:=⟨_,rfl⟩;rw [ex] at c1 c2 c3 hx;rw [ey] at d1 d2 d3 hy;subst hA hA';have HWd:=zqh fun i => below_then HW.out (drewN_belowW wr i)
        have HX:=zqh hx;have HY:=zqh hy;clear hx hy ex ey
        by_cases hn : x.nm = y.nm
        · rw [← hn] at d1
          by_cases ht : x.xt = y.xt
          · rw [← ht] at d2
            by_cases hf : x.fl = y.fl
            · rw [← hf] at d3
              have HT2 : Hid (a.take (k + 1) = b.take (k + 1)):=by
                show _ = _;rw [List.take_add_one,List.take_add_one,HT.out,HX.out,HY.out];rw [show x = y from by cases x; cases y; simp_all]
              clear HA HB HT hn ht hf;(go_wp2_with fail)
              go_quiet (fail)
              (go_wp2_with fail)
              go_roundw
              case rel => exact ⟨k + 1,by simp,by omega,HT2,zqh (HWd.out _)⟩
              case measure => simp [intOf]; omega
            · have hf1 : ((x.fl : Int) != y.fl) = true:=by simpa using hf
              have hf2 : ((x.fl : Int) == y.fl) = false:=by simpa using hf
              have H : Hid (dSame a b = false):=dsame_no HX.out HY.out (fun e => hf (by rw [e]));clear HT HA HB;(go_wp2_with fail)
              go_quiet (fail)
              (go_wp2_with fail);go_ret;exact ⟨by rw [H.out]; rfl,HWd.out _⟩
          · have ht1 : ((x.xt : Int) != y.xt) = true:=by simpa using ht
            have ht2 : ((x.xt : Int) == y.xt) = false:=by simpa using ht
            have H : Hid (dSame a b = false):=dsame_no HX.out HY.out (fun e => ht (by rw [e]));clear HT HA HB;(go_wp2_with fail)
            go_quiet (fail)
            (go_wp2_with fail);go_ret;exact ⟨by rw [H.out]; rfl,HWd.out _⟩
        · have hne:=str_ne (a:=strB x.nm) (b:=strB y.nm) (fun e => hn (strB_inj e))
          have hne2:=str_neq (a:=strB x.nm) (b:=strB y.nm) (fun e => hn (strB_inj e));have H : Hid (dSame a b = false):=dsame_no HX.out HY.out (fun e => hn (by rw [e]));clear HT HA HB;(go_wp2_with fail)
          go_quiet (fail)
          (go_wp2_with fail);go_ret;exact ⟨by rw [H.out]; rfl,HWd.out _⟩
      · obtain rfl : k = a.length:=by omega
        have H : Hid (dSame a b = true):=by
          have ht:=HT.out;have hl:=HLN.out;show _ = _;unfold dSame;rw [List.take_length,hl,List.take_length] at ht;simpa using ht
        have hkl : decide ((a.length : Int) < (a.length : Int)) = false:=by simp
        clear hka hk HT HA HB;(go_wp2_with fail);go_ret;exact ⟨by rw [H.out]; rfl,HW.out⟩
  · have H : Hid (dSame a b = false):=by show _ = _; unfold dSame; simp; intro e; rw [e] at hl; exact hl rfl
    rw [H.out];have hl' : ((a.length : Int) != (b.length : Int)) = true:=by simp; omega
    have hl2 : ((a.length : Int) == (b.length : Int)) = false:=by simp; omega
    have hl3 : ¬ (a.length : Int) = (b.length : Int):=by omega
    clear h h' hl ha;go_enter Tryz.func33,Tryz.ntmps33;(go_wp2_with fail);go_ret;exact ⟨rfl,Below.refl _ _⟩
end Go.Proofs.YtlgnijhemfkflaaGreatDoor
