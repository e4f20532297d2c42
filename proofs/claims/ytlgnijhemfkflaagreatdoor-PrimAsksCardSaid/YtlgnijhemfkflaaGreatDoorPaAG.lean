/- Part 7. -/
import Derived.Lib.BitFns
import Derived.Test.YtlgnijhemfkflaaGreatDoorPaAF
set_option linter.unusedVariables false
set_option linter.unusedSimpArgs false
set_option maxRecDepth 100000
set_option maxHeartbeats 4000000

namespace Go.Proofs.YtlgnijhemfkflaaGreatDoor
open Go.RowKit


theorem lz64_any (x : Nat) (w : World) (h1 : x ≤ 18446744073709551615) :
    Calls Tryz.prog 294 #[.int .u64 (x : Int)] w fun e w' => e = .returned (.int .i64 ((64 - Lib.bitLen x : Nat) : Int)) ∧ w = w' :=
  (Tryz.bits_LeadingZeros64 x w (by omega) (by omega)).mono fun e w' ⟨a,b⟩ => ⟨by
    have h2 : Lib.bitLen x ≤ 64:=Lib.bitLen_le x 64 (by omega) (by omega)
    rw [a]; exact ret_int (by simp only [Int.toNat_natCast]; omega),b.symm⟩
theorem low_quo (lo y : Nat) (h : lo ≤ 18446744073709551615) : IntKind.u64.wrap ((lo : Int) / (y : Int)) = ((lo / y : Nat) : Int):=by
  rw [← Int.natCast_ediv,un_nat _ (by have:=Nat.div_le_self lo y; omega)]
theorem div64_low (lo y : Nat) (w : World) (hy : 0 < y) (hl : lo ≤ 18446744073709551615) :
    Calls Tryz.prog 269 #[.int .u64 0,.int .u64 (lo : Int),.int .u64 (y : Int)] w fun e w' => e = .returned (.tuple #[.int .u64 ((lo / y : Nat) : Int),.int .u64 ((lo % y : Nat) : Int)]) ∧ Below w.heap.size w w':=by
  have h0 : ((y : Int) == 0) = false:=by simp; omega
  have h1 : ¬ (y : Int) = 0:=by omega
  have H:=zqh (low_quo lo y hl);go_enter Tryz.func269,Tryz.ntmps269;go_wp2
  go_quiet (fail)
  go_wp2;go_ret2;exact ⟨ret_two H.out (Int.natCast_emod _ _).symm,drew_below _ _⟩
structure DigitOf (u v v1 v0 n d : Nat) : Prop where
  parts : v1 * 4294967296 + v0 = v
  lt : u < v
  n_lt : n < 4294967296
  v0_lt : v0 < 4294967296
  v1_ge : 2147483648 ≤ v1
  v1_lt : v1 < 4294967296
  digit : (u * 4294967296 + n) / v = d
theorem DigitOf.over {u v v1 v0 n d : Nat} (D : DigitOf u v v1 v0 n d) (k j : Nat) (h : k * v1 + j = u) (hd : d < k) :
    (k < 4294967296 → 4294967296 * (j : Int) + (n : Int) < (k : Int) * (v0 : Int)) ∧ (k < 4294967296 → (k : Int) * (v0 : Int) ≤ 18446744073709551615):=by
  have hv:=D.parts;have h1:=D.v1_ge;have h0:=D.v0_lt;have ht:=Plain.digit_test 4294967296 v1 v0 u n k j h;refine ⟨fun _ => ?_,fun hk => ?_⟩
  · have : u * 4294967296 + n < k * v:=by
      rw [← Nat.div_lt_iff_lt_mul (by omega),D.digit]; exact hd
    rw [hv] at ht;have:=ht.2 this;rw [← Int.natCast_mul];omega
  · have : k * v0 ≤ 4294967295 * 4294967295:=Nat.mul_le_mul (by omega) (by omega)
    rw [← Int.natCast_mul];omega
theorem DigitOf.brk {u v v1 v0 n d : Nat} (D : DigitOf u v v1 v0 n d) (k j : Nat) (h : k * v1 + j = u) (hd : d < k) (hk : k ≤ 4294967297) (hj : 4294967296 ≤ j + v1) : k = d + 1:=by
  have hv:=D.parts;have h1:=D.v1_ge;have hb:=Plain.digit_break 4294967296 v1 v0 u n (k - 1) (j + v1) (by omega) D.v0_lt hj (by rw [Nat.sub_mul]; have : v1 ≤ k * v1:=Nat.le_mul_of_pos_left _ (by omega); omega);rw [hv] at hb;have:=(Nat.le_div_iff_mul_le (by omega)).2 hb;rw [D.digit] at this;omega
theorem DigitOf.lt_base {u v v1 v0 n d : Nat} (D : DigitOf u v v1 v0 n d) : d < 4294967296:=by
  have:=Plain.digit_lt 4294967296 v u n D.lt D.n_lt;rw [D.digit] at this;exact this
theorem DigitOf.under {u v v1 v0 n d : Nat} (D : DigitOf u v v1 v0 n d) (j : Nat) (h : d * v1 + j = u) :
    (d : Int) * (v0 : Int) ≤ 4294967296 * (j : Int) + (n : Int) ∧ (d : Int) * (v0 : Int) ≤ 18446744073709551615:=by
  have hv:=D.parts;have h0:=D.v0_lt;have h1:=D.v1_ge;have hb:=D.lt_base;have ht:=Plain.digit_test 4294967296 v1 v0 u n d j h;rw [hv] at ht;have : d * v ≤ u * 4294967296 + n:=(Nat.le_div_iff_mul_le (by omega)).1 (by rw [D.digit]; omega);have h2 : d * v0 ≤ 4294967295 * 4294967295:=Nat.mul_le_mul (by omega) (by omega);rw [← Int.natCast_mul];omega
structure GuessOf (u v1 d q r : Nat) : Prop where
  quo : (u : Int) / (v1 : Int) = (q : Int)
  le : (q : Int) * (v1 : Int) ≤ (u : Int)
  rest : (u : Int) - (q : Int) * (v1 : Int) = (r : Int)
  u_le : (u : Int) ≤ 18446744073709551615
  q_le : q ≤ 4294967297
  r_lt : r < v1
  d_le : d ≤ q
theorem GuessOf.parts {u v1 d q r : Nat} (G : GuessOf u v1 d q r) : q * v1 + r = u:=by
  have:=G.rest; rw [← Int.natCast_mul] at this; omega
theorem GuessOf.pos {u v1 d q r : Nat} (_G : GuessOf u v1 d q r) : 0 ≤ (q : Int) * (v1 : Int):=by
  rw [← Int.natCast_mul]; omega
theorem step_parts {k v1 j U : Nat} (h : k * v1 + j = U) (hk : 1 ≤ (k : Int)) : (k - 1) * v1 + (j + v1) = U:=by
  have : v1 ≤ k * v1:=Nat.le_mul_of_pos_left _ (by omega);rw [Nat.sub_mul]; omega
theorem div64_core (hi lo y s Y H L U v1 v0 n1 n0 q r u2 q2 r2 d1 d0 Q R : Nat) (w : World) (h0 : 0 < hi) (h1 : hi < y) (_h2 : lo ≤ 18446744073709551615) (h3 : y ≤ 18446744073709551615) (hs : s ≤ 63) (es : Hid (64 - Lib.bitLen y = s))
    (eY : IntKind.u64.wrap ((y : Int) * 2 ^ s) = (Y : Int)) (eH : IntKind.u64.wrap ((hi : Int) * 2 ^ s) = (H : Int)) (eL : IntKind.u64.wrap ((lo : Int) * 2 ^ s) = (L : Int))
    (eU : bits BinOp.or IntKind.u64 (H : Int) ((lo : Int) / 2 ^ (64 - s)) = (U : Int))
    (ev0 : bits BinOp.and IntKind.u64 (Y : Int) 4294967295 = (v0 : Int)) (en0 : bits BinOp.and IntKind.u64 (L : Int) 4294967295 = (n0 : Int))
    (ev1 : (Y : Int) / 4294967296 = (v1 : Int)) (en1 : (L : Int) / 4294967296 = (n1 : Int))
    (b1 : 2147483648 ≤ v1) (b2 : v1 < 4294967296) (_b3 : v0 < 4294967296) (b4 : n1 < 4294967296) (b5 : n0 < 4294967296)
    (D1 : Hid (DigitOf U Y v1 v0 n1 d1)) (G1 : Hid (GuessOf U v1 d1 q r)) (D2 : Hid (DigitOf u2 Y v1 v0 n0 d0)) (G2 : Hid (GuessOf u2 v1 d0 q2 r2))
    (E2 : Hid (IntKind.u64.wrap (IntKind.u64.wrap (IntKind.u64.wrap ((U : Int) * 4294967296) + (n1 : Int)) - IntKind.u64.wrap ((d1 : Int) * (Y : Int))) = (u2 : Int)))
    (F1 : Hid ((d1 : Int) * 4294967296 + (d0 : Int) = (Q : Int)))
    (F2 : Hid (IntKind.u64.wrap (IntKind.u64.wrap (IntKind.u64.wrap ((u2 : Int) * 4294967296) + (n0 : Int)) - IntKind.u64.wrap ((d0 : Int) * (Y : Int))) / 2 ^ s = (R : Int))) :
    Calls Tryz.prog 269 #[.int .u64 (hi : Int),.int .u64 (lo : Int),.int .u64 (y : Int)] w fun e w' => e = .returned (.tuple #[.int .u64 (Q : Int),.int .u64 (R : Int)]) ∧ w = w':=by
  have y0 : ((y : Int) == 0) = false:=by simp; omega
  have hi0 : ((hi : Int) == 0) = false:=by simp; omega
  have g1:=G1.out.quo;have g2:=G1.out.le;have g3:=G1.out.rest;have g4:=G1.out.u_le;have g5:=G1.out.q_le;have g6:=G1.out.pos;go_enter Tryz.func269,Tryz.ntmps269;(go_wp2_with (go_at_call 294; refine (lz64_any _ _ (by omega)).mono ?_; rintro e w' ⟨rfl,rfl⟩; rw [es.out]));clear eY eH eL eU ev0 en0 ev1 en1 y0 hi0 g1 g2 g3 g4 g5 g6
  go_loop [15,16] (fun t u => ∃ k j : Nat,t = .int .u64 (k : Int) ∧ u = .int .u64 (j : Int) ∧ Hid (k * v1 + j = U) ∧ j < 4294967296 ∧ d1 ≤ k ∧ k ≤ 4294967297) (fun t _ => (intOf t).toNat)
  case atStart => exact ⟨q,r,rfl,rfl,zqh G1.out.parts,by have:=G1.out.r_lt; omega,G1.out.d_le,G1.out.q_le⟩
  case round =>
    obtain ⟨k,j,rfl,rfl,hkj,hj,hdk,hk⟩:=hrel;have hj' : (j : Int) < 4294967296:=by omega
    have hd1 : (d1 : Int) < 4294967296:=by have:=D1.out.lt_base; omega
    have hd0 : (d0 : Int) < 4294967296:=by have:=D2.out.lt_base; omega
    by_cases hlt : d1 < k
    · have T:=D1.out.over k j hkj.out hlt
      have hk1 : 1 ≤ (k : Int):=by omega
      by_cases hj2 : 4294967296 ≤ (j : Int) + (v1 : Int)
      · have hkd:=D1.out.brk k j hkj.out hlt hk (by omega)
        subst hkd
        by_cases hB : 4294967296 ≤ (d1 : Int) + 1
        · clear T hlt hdk hk hkj
          have e2:=E2.out;have g1:=G2.out.quo;have g2:=G2.out.le;have g3:=G2.out.rest;have g4:=G2.out.u_le;have g5:=G2.out.q_le;have g6:=G2.out.pos;go_wp2;clear e2 g1 g2 g3 g4 g5 g6 hB hj hj' hj2 hk1
          go_loop [18,16] (fun t u => ∃ k j : Nat,t = .int .u64 (k : Int) ∧ u = .int .u64 (j : Int) ∧ Hid (k * v1 + j = u2) ∧ j < 4294967296 ∧ d0 ≤ k ∧ k ≤ 4294967297) (fun t _ => (intOf t).toNat)
          case atStart => exact ⟨q2,r2,rfl,rfl,zqh G2.out.parts,by have:=G2.out.r_lt; omega,G2.out.d_le,G2.out.q_le⟩
          case round =>
            obtain ⟨k,j,rfl,rfl,hkj,hj,hdk,hk⟩:=hrel;have hj' : (j : Int) < 4294967296:=by omega
            by_cases hlt : d0 < k
            · have T:=D2.out.over k j hkj.out hlt
              have hk1 : 1 ≤ (k : Int):=by omega
              by_cases hj2 : 4294967296 ≤ (j : Int) + (v1 : Int)
              · have hkd:=D2.out.brk k j hkj.out hlt hk (by omega)
                subst hkd
                by_cases hB : 4294967296 ≤ (d0 : Int) + 1
                · clear T hlt hdk hk hkj
                  go_wp2;go_ret2;exact ⟨ret_two F1.out F2.out,rfl⟩
                · have T1:=T.1 (by omega)
                  have T2:=T.2 (by omega);clear T hlt hdk hk hkj;simp only [Int.natCast_add,Int.natCast_one] at T1 T2;go_wp2;go_ret2;exact ⟨ret_two F1.out F2.out,rfl⟩
              · by_cases hB : 4294967296 ≤ (k : Int)
                · clear T
                  go_wp2
                  go_round
                  case rel => exact ⟨k - 1,j + v1,by go_num,by go_num,zqh (step_parts hkj.out hk1),by omega,by omega,by omega⟩
                  case measure => simp [intOf]; omega
                · have T1:=T.1 (by omega)
                  have T2:=T.2 (by omega);clear T;go_wp2
                  go_round
                  case rel => exact ⟨k - 1,j + v1,by go_num,by go_num,zqh (step_parts hkj.out hk1),by omega,by omega,by omega⟩
                  case measure => simp [intOf]; omega
            · have hkd : d0 = k:=by omega
              subst hkd;have T:=D2.out.under j hkj.out;obtain ⟨T1,T2⟩:=T;have hB : ¬ 4294967296 ≤ (d0 : Int):=by omega
              have T0 : 0 ≤ (d0 : Int) * (v0 : Int):=by rw [← Int.natCast_mul]; omega
              have T3 : decide (4294967296 * (j : Int) + (n0 : Int) < (d0 : Int) * (v0 : Int)) = false:=decide_eq_false (by omega);clear T1;clear hlt hdk hk hkj;go_wp2;go_ret2;exact ⟨ret_two F1.out F2.out,rfl⟩
        · have T1:=T.1 (by omega)
          have T2:=T.2 (by omega);clear T hlt hdk hk hkj;simp only [Int.natCast_add,Int.natCast_one] at T1 T2;have e2:=E2.out;have g1:=G2.out.quo;have g2:=G2.out.le;have g3:=G2.out.rest;have g4:=G2.out.u_le;have g5:=G2.out.q_le;have g6:=G2.out.pos;go_wp2;clear e2 g1 g2 g3 g4 g5 g6 hB hj hj' hj2 hk1 T1 T2
          go_loop [18,16] (fun t u => ∃ k j : Nat,t = .int .u64 (k : Int) ∧ u = .int .u64 (j : Int) ∧ Hid (k * v1 + j = u2) ∧ j < 4294967296 ∧ d0 ≤ k ∧ k ≤ 4294967297) (fun t _ => (intOf t).toNat)
          case atStart => exact ⟨q2,r2,rfl,rfl,zqh G2.out.parts,by have:=G2.out.r_lt; omega,G2.out.d_le,G2.out.q_le⟩
          case round =>
            obtain ⟨k,j,rfl,rfl,hkj,hj,hdk,hk⟩:=hrel;have hj' : (j : Int) < 4294967296:=by omega
            by_cases hlt : d0 < k
            · have T:=D2.out.over k j hkj.out hlt
              have hk1 : 1 ≤ (k : Int):=by omega
              by_cases hj2 : 4294967296 ≤ (j : Int) + (v1 : Int)
              · have hkd:=D2.out.brk k j hkj.out hlt hk (by omega)
                subst hkd
                by_cases hB : 4294967296 ≤ (d0 : Int) + 1
                · clear T hlt hdk hk hkj
                  go_wp2;go_ret2;exact ⟨ret_two F1.out F2.out,rfl⟩
                · have T1:=T.1 (by omega)
                  have T2:=T.2 (by omega);clear T hlt hdk hk hkj;simp only [Int.natCast_add,Int.natCast_one] at T1 T2;go_wp2;go_ret2;exact ⟨ret_two F1.out F2.out,rfl⟩
              · by_cases hB : 4294967296 ≤ (k : Int)
                · clear T
                  go_wp2
                  go_round
                  case rel => exact ⟨k - 1,j + v1,by go_num,by go_num,zqh (step_parts hkj.out hk1),by omega,by omega,by omega⟩
                  case measure => simp [intOf]; omega
                · have T1:=T.1 (by omega)
                  have T2:=T.2 (by omega);clear T;go_wp2
                  go_round
                  case rel => exact ⟨k - 1,j + v1,by go_num,by go_num,zqh (step_parts hkj.out hk1),by omega,by omega,by omega⟩
                  case measure => simp [intOf]; omega
            · have hkd : d0 = k:=by omega
              subst hkd;have T:=D2.out.under j hkj.out;obtain ⟨T1,T2⟩:=T;have hB : ¬ 4294967296 ≤ (d0 : Int):=by omega
              have T0 : 0 ≤ (d0 : Int) * (v0 : Int):=by rw [← Int.natCast_mul]; omega
              have T3 : decide (4294967296 * (j : Int) + (n0 : Int) < (d0 : Int) * (v0 : Int)) = false:=decide_eq_false (by omega);clear T1;clear hlt hdk hk hkj;go_wp2;go_ret2;exact ⟨ret_two F1.out F2.out,rfl⟩
      · by_cases hB : 4294967296 ≤ (k : Int)
        · clear T
          go_wp2
          go_round
          case rel => exact ⟨k - 1,j + v1,by go_num,by go_num,zqh (step_parts hkj.out hk1),by omega,by omega,by omega⟩
          case measure => simp [intOf]; omega
        · have T1:=T.1 (by omega)
          have T2:=T.2 (by omega);clear T;go_wp2
          go_round
          case rel => exact ⟨k - 1,j + v1,by go_num,by go_num,zqh (step_parts hkj.out hk1),by omega,by omega,by omega⟩
          case measure => simp [intOf]; omega
    · have hkd : d1 = k:=by omega
      subst hkd;have T:=D1.out.under j hkj.out;obtain ⟨T1,T2⟩:=T;have hB : ¬ 4294967296 ≤ (d1 : Int):=by omega
      have T0 : 0 ≤ (d1 : Int) * (v0 : Int):=by rw [← Int.natCast_mul]; omega
      have T3 : decide (4294967296 * (j : Int) + (n1 : Int) < (d1 : Int) * (v0 : Int)) = false:=decide_eq_false (by omega);clear T1;clear hlt hdk hk hkj;have e2:=E2.out;have g1:=G2.out.quo;have g2:=G2.out.le;have g3:=G2.out.rest;have g4:=G2.out.u_le;have g5:=G2.out.q_le;have g6:=G2.out.pos;go_wp2;clear e2 g1 g2 g3 g4 g5 g6 hB hj hj' T0 T2 T3
      go_loop [18,16] (fun t u => ∃ k j : Nat,t = .int .u64 (k : Int) ∧ u = .int .u64 (j : Int) ∧ Hid (k * v1 + j = u2) ∧ j < 4294967296 ∧ d0 ≤ k ∧ k ≤ 4294967297) (fun t _ => (intOf t).toNat)
      case atStart => exact ⟨q2,r2,rfl,rfl,zqh G2.out.parts,by have:=G2.out.r_lt; omega,G2.out.d_le,G2.out.q_le⟩
      case round =>
        obtain ⟨k,j,rfl,rfl,hkj,hj,hdk,hk⟩:=hrel;have hj' : (j : Int) < 4294967296:=by omega
        by_cases hlt : d0 < k
        · have T:=D2.out.over k j hkj.out hlt
          have hk1 : 1 ≤ (k : Int):=by omega
          by_cases hj2 : 4294967296 ≤ (j : Int) + (v1 : Int)
          · have hkd:=D2.out.brk k j hkj.out hlt hk (by omega)
            subst hkd
            by_cases hB : 4294967296 ≤ (d0 : Int) + 1
            · clear T hlt hdk hk hkj
              go_wp2;go_ret2;exact ⟨ret_two F1.out F2.out,rfl⟩
            · have T1:=T.1 (by omega)
              have T2:=T.2 (by omega);clear T hlt hdk hk hkj;simp only [Int.natCast_add,Int.natCast_one] at T1 T2;go_wp2;go_ret2;exact ⟨ret_two F1.out F2.out,rfl⟩
          · by_cases hB : 4294967296 ≤ (k : Int)
            · clear T
              go_wp2
              go_round
              case rel => exact ⟨k - 1,j + v1,by go_num,by go_num,zqh (step_parts hkj.out hk1),by omega,by omega,by omega⟩
              case measure => simp [intOf]; omega
            · have T1:=T.1 (by omega)
              have T2:=T.2 (by omega);clear T;go_wp2
              go_round
              case rel => exact ⟨k - 1,j + v1,by go_num,by go_num,zqh (step_parts hkj.out hk1),by omega,by omega,by omega⟩
              case measure => simp [intOf]; omega
        · have hkd : d0 = k:=by omega
          subst hkd;have T:=D2.out.under j hkj.out;obtain ⟨T1,T2⟩:=T;have hB : ¬ 4294967296 ≤ (d0 : Int):=by omega
          have T0 : 0 ≤ (d0 : Int) * (v0 : Int):=by rw [← Int.natCast_mul]; omega
          have T3 : decide (4294967296 * (j : Int) + (n0 : Int) < (d0 : Int) * (v0 : Int)) = false:=decide_eq_false (by omega);clear T1;clear hlt hdk hk hkj;go_wp2;go_ret2;exact ⟨ret_two F1.out F2.out,rfl⟩
end Go.Proofs.YtlgnijhemfkflaaGreatDoor

namespace Go.Proofs.YtlgnijhemfkflaaGreatDoor
open Go.RowKit


theorem bitLenAux_bounds : ∀ (f x : Nat),x < 2 ^ f → x < 2 ^ Lib.bitLenAux f x ∧ (0 < x → 2 ^ Lib.bitLenAux f x ≤ 2 * x)
  | 0,x,h => by
    have : x = 0:=by simpa using h
    subst this;simp [Lib.bitLenAux]
  | f + 1,x,h => by
    by_cases h0 : x = 0
    · subst h0; simp [Lib.bitLenAux]
    · have ih:=bitLenAux_bounds f (x / 2) (by rw [Nat.pow_succ] at h; omega)
      simp only [Lib.bitLenAux,h0,if_false];rw [Nat.add_comm 1,Nat.pow_succ];refine ⟨by omega,fun _ => ?_⟩
      by_cases h1 : x / 2 = 0
      · rw [h1]
        have : Lib.bitLenAux f 0 = 0:=by cases f <;> simp [Lib.bitLenAux]
        rw [this];omega
      · have:=ih.2 (by omega)
        omega
theorem bitLen_bounds (x : Nat) (h : x < 18446744073709551616) (h0 : 0 < x) : x < 2 ^ Lib.bitLen x ∧ 2 ^ Lib.bitLen x ≤ 2 * x ∧ Lib.bitLen x ≤ 64 ∧ 1 ≤ Lib.bitLen x:=by
  have hb:=bitLenAux_bounds 64 x (by simpa using h);have hl : Lib.bitLen x ≤ 64:=Lib.bitLen_le x 64 (by omega) (by simpa using h);refine ⟨hb.1,hb.2 h0,hl,?_⟩;have h1:=hb.1;unfold Lib.bitLen
  by_cases h2 : Lib.bitLenAux 64 x = 0
  · rw [h2] at h1; simp at h1; omega
  · omega
theorem shift_norm (y s : Nat) (hy : 0 < y) (h : y < 18446744073709551616) (es : 64 - Lib.bitLen y = s) : s ≤ 63 ∧ 9223372036854775808 ≤ y * 2 ^ s ∧ y * 2 ^ s < 18446744073709551616:=by
  obtain ⟨h1,h2,h3,h4⟩:=bitLen_bounds y h hy;generalize Lib.bitLen y = b at *;subst es;have e : 2 ^ b * 2 ^ (64 - b) = 18446744073709551616:=by rw [← Nat.pow_add,show b + (64 - b) = 64 by omega]
  have hp : 0 < 2 ^ (64 - b):=Nat.two_pow_pos _;refine ⟨by omega,?_,?_⟩
  · have : 2 ^ b * 2 ^ (64 - b) ≤ 2 * y * 2 ^ (64 - b):=Nat.mul_le_mul_right _ h2
    rw [Nat.mul_assoc] at this;omega
  · have : y * 2 ^ (64 - b) < 2 ^ b * 2 ^ (64 - b):=Nat.mul_lt_mul_of_pos_right h1 hp
    omega
theorem shift_parts (hi lo y s : Nat) (hs : s ≤ 63) (h1 : hi < y) (hl : lo < 18446744073709551616) (hY : y * 2 ^ s < 18446744073709551616) :
    hi * 2 ^ s < 18446744073709551616 ∧ hi * 2 ^ s ||| lo / 2 ^ (64 - s) = hi * 2 ^ s + lo / 2 ^ (64 - s) ∧ hi * 2 ^ s + lo / 2 ^ (64 - s) < y * 2 ^ s ∧
    (hi * 18446744073709551616 + lo) * 2 ^ s = (hi * 2 ^ s + lo / 2 ^ (64 - s)) * 18446744073709551616 + lo * 2 ^ s % 18446744073709551616 ∧ lo / 2 ^ (64 - s) < 18446744073709551616:=by
  have hp : 0 < 2 ^ s:=Nat.two_pow_pos _;have e : 2 ^ (64 - s) * 2 ^ s = 18446744073709551616:=by rw [← Nat.pow_add,show 64 - s + s = 64 by omega]
  have hT : lo / 2 ^ (64 - s) < 2 ^ s:=by
    refine Nat.div_lt_of_lt_mul ?_;omega
  have hH : hi * 2 ^ s + 2 ^ s ≤ y * 2 ^ s:=by
    have : (hi + 1) * 2 ^ s ≤ y * 2 ^ s:=Nat.mul_le_mul_right _ h1;rw [Nat.add_mul] at this;omega
  have ed : lo * 2 ^ s / 18446744073709551616 = lo / 2 ^ (64 - s):=by
    rw [← e]; exact Nat.mul_div_mul_right _ _ hp
  have hm:=Nat.div_add_mod (lo * 2 ^ s) 18446744073709551616;rw [ed] at hm;refine ⟨by omega,?_,by omega,?_,by omega⟩
  · have:=Nat.two_pow_add_eq_or_of_lt hT hi
    rw [Nat.mul_comm] at this;exact this.symm
  · rw [Nat.add_mul,Nat.add_mul,Nat.mul_right_comm]
    omega
theorem digit_mk (u v n : Nat) (hv : 9223372036854775808 ≤ v) (hv2 : v < 18446744073709551616) (hu : u < v) (hn : n < 4294967296) :
    DigitOf u v (v / 4294967296) (v % 4294967296) n ((u * 4294967296 + n) / v) ∧
    GuessOf u (v / 4294967296) ((u * 4294967296 + n) / v) (u / (v / 4294967296)) (u % (v / 4294967296)):=by
  have e : v / 4294967296 * 4294967296 + v % 4294967296 = v:=by omega
  have h1 : 2147483648 ≤ v / 4294967296:=by omega
  refine ⟨⟨e,hu,hn,by omega,h1,by omega,rfl⟩,⟨by rw [← Int.natCast_ediv],?_,?_,by omega,?_,Nat.mod_lt _ (by omega),?_⟩⟩
  · rw [← Int.natCast_mul]
    have:=Nat.div_mul_le_self u (v / 4294967296);omega
  · rw [← Int.natCast_mul]
    have:=Nat.div_add_mod u (v / 4294967296);rw [Nat.mul_comm] at this;omega
  · exact Plain.guess_le 4294967296 (v / 4294967296) (v % 4294967296) u (by omega) (by omega) (by omega) (by omega)
  · have:=Plain.guess_ge 4294967296 (v / 4294967296) (v % 4294967296) u n (by omega) hn
    rw [e] at this;exact this
theorem wrap_rest (u n d v r : Nat) (h : u * 4294967296 + n = v * d + r) (hr : r < 18446744073709551616) :
    IntKind.u64.wrap (IntKind.u64.wrap (IntKind.u64.wrap ((u : Int) * 4294967296) + (n : Int)) - IntKind.u64.wrap ((d : Int) * (v : Int))) = (r : Int):=by
  have e : (d : Int) * (v : Int) = ((v * d : Nat) : Int):=by rw [Int.natCast_mul,Int.mul_comm]
  rw [e];generalize v * d = p at *;simp only [IntKind.wrap_u64];omega
theorem wrap_rest' (u n v : Nat) (hv : 0 < v) (hv2 : v < 18446744073709551616) :
    IntKind.u64.wrap (IntKind.u64.wrap (IntKind.u64.wrap ((u : Int) * 4294967296) + (n : Int)) - IntKind.u64.wrap (((u * 4294967296 + n) / v : Nat) * (v : Int))) = (((u * 4294967296 + n) % v : Nat) : Int):=by
  have m:=Nat.div_add_mod (u * 4294967296 + n) v;have l : (u * 4294967296 + n) % v < v:=Nat.mod_lt _ hv;generalize (u * 4294967296 + n) / v = d at *;generalize (u * 4294967296 + n) % v = r at *;exact wrap_rest u n d v r (by omega) (by omega)
theorem div64_any (hi lo y : Nat) (w : World) (h1 : hi < y) (h2 : lo < 18446744073709551616) (h3 : y < 18446744073709551616) :
    Calls Tryz.prog 269 #[.int .u64 (hi : Int),.int .u64 (lo : Int),.int .u64 (y : Int)] w fun e w' => e = .returned (.tuple #[.int .u64 (((hi * 18446744073709551616 + lo) / y : Nat) : Int),.int .u64 (((hi * 18446744073709551616 + lo) % y : Nat) : Int)]) ∧ Below w.heap.size w w':=by
  by_cases h0 : hi = 0
  · subst h0
    refine (div64_low lo y w (by omega) (by omega)).mono fun e w' h => ?_
    simpa using h
  · obtain ⟨s,es⟩ : ∃ s,64 - Lib.bitLen y = s:=⟨_,rfl⟩
    obtain ⟨hs,hY1,hY2⟩:=shift_norm y s (by omega) h3 es;obtain ⟨k1,k2,k3,k4,k5⟩:=shift_parts hi lo y s hs h1 h2 hY2;have hp : 0 < 2 ^ s:=Nat.two_pow_pos _;have sc:=Plain.scaled (hi * 18446744073709551616 + lo) y (2 ^ s) hp;rw [k4] at sc;generalize hY : y * 2 ^ s = Y at *;generalize hH : hi * 2 ^ s = H at *;generalize hL : lo * 2 ^ s % 18446744073709551616 = L at *;generalize hT : lo / 2 ^ (64 - s) = T at *;have hL2 : L < 18446744073709551616:=by omega
    obtain ⟨D1,G1⟩:=digit_mk (H + T) Y (L / 4294967296) hY1 hY2 k3 (by omega);have hu2 : ((H + T) * 4294967296 + L / 4294967296) % Y < Y:=Nat.mod_lt _ (by omega);obtain ⟨D2,G2⟩:=digit_mk (((H + T) * 4294967296 + L / 4294967296) % Y) Y (L % 4294967296) hY1 hY2 hu2 (by omega);have td:=Plain.two_digits 4294967296 Y (H + T) (L / 4294967296) (L % 4294967296) (by omega) (by omega);have eN : ((H + T) * 4294967296 + L / 4294967296) * 4294967296 + L % 4294967296 = (H + T) * 18446744073709551616 + L:=by omega
    rw [eN,sc.1] at td
    refine (div64_core hi lo y s Y H L (H + T) (Y / 4294967296) (Y % 4294967296) (L / 4294967296) (L % 4294967296) _ _ _ _ _ _ _ ((hi * 18446744073709551616 + lo) / y) ((hi * 18446744073709551616 + lo) % y) w (by omega) h1 (by omega) (by omega) hs (zqh es)
      ?_ ?_ ?_ ?_ ?_ ?_ ?_ ?_ (by omega) (by omega) (by omega) (by omega) (by omega) (zqh D1) (zqh G1) (zqh D2) (zqh G2) (zqh ?_) (zqh ?_) (zqh ?_)).mono fun e w' ⟨he,hw⟩ => ⟨he,hw ▸ Below.refl _ _⟩
    · rw [← un_nat Y hY2,← hY]; simp
    · rw [← un_nat H k1,← hH]; simp
    · rw [IntKind.wrap_u64,← hL]; simp
    · have : ((lo : Int) / 2 ^ (64 - s)) = (T : Int):=by rw [← hT]; simp
      rw [this,bits_or_u64_nat _ _ k1 k5,k2]
    · have:=bits_and_u64_nat Y 4294967295 hY2 (by omega)
      rw [Nat.and_two_pow_sub_one_eq_mod Y 32] at this;exact this
    · have:=bits_and_u64_nat L 4294967295 hL2 (by omega)
      rw [Nat.and_two_pow_sub_one_eq_mod L 32] at this;exact this
    · omega
    · omega
    · exact wrap_rest' (H + T) (L / 4294967296) Y (by omega) hY2
    · rw [← td.1]; simp
    · have:=wrap_rest' (((H + T) * 4294967296 + L / 4294967296) % Y) (L % 4294967296) Y (by omega) hY2
      rw [this,td.2,← sc.2];simp
end Go.Proofs.YtlgnijhemfkflaaGreatDoor

namespace Go.Proofs.YtlgnijhemfkflaaGreatDoor
open Go.RowKit


theorem divide_zero (lo hi : Int) (w : World) :
    Calls Tryz.prog 210 #[.int .u64 lo,.int .u64 hi,.int .u64 0] w fun e w' => e = .returned (.tuple #[.int .u64 0,.int .u64 0,.int .i64 (-10)]) ∧ Below w.heap.size w w':=by
  go_enter Tryz.func210,Tryz.ntmps210;go_wp2
  go_ret3
  exact ⟨rfl,Below.refl _ _⟩
theorem divide_range (lo hi d : Nat) (w : World) (h : d ≤ hi) (hd : 0 < d) :
    Calls Tryz.prog 210 #[.int .u64 (lo : Int),.int .u64 (hi : Int),.int .u64 (d : Int)] w fun e w' => e = .returned (.tuple #[.int .u64 0,.int .u64 0,.int .i64 (-11)]) ∧ Below w.heap.size w w':=by
  have h0 : ((d : Int) == 0) = false:=by simp; omega
  have h1 : (d : Int) ≤ (hi : Int):=by omega
  go_enter Tryz.func210,Tryz.ntmps210;go_wp2
  go_ret3
  exact ⟨rfl,Below.refl _ _⟩
theorem divide_ok (lo hi d Q R : Nat) (w : World) (h : hi < d) (hl : lo < 18446744073709551616) (hd : d < 18446744073709551616) (hQ : Hid ((hi * 18446744073709551616 + lo) / d = Q)) (hR : Hid ((hi * 18446744073709551616 + lo) % d = R)) :
    Calls Tryz.prog 210 #[.int .u64 (lo : Int),.int .u64 (hi : Int),.int .u64 (d : Int)] w fun e w' => e = .returned (.tuple #[.int .u64 (Q : Int),.int .u64 (R : Int),.int .i64 0]) ∧ Below w.heap.size w w':=by
  have h0 : ((d : Int) == 0) = false:=by simp; omega
  have h1 : ¬ (d : Int) ≤ (hi : Int):=by omega
  have HC:=div64_any hi lo d w h hl hd;rw [hQ.out,hR.out] at HC;clear hl hd;go_enter Tryz.func210,Tryz.ntmps210;(go_wp2_with (go_at_call 269; refine HC.mono ?_; rintro e w1 ⟨rfl,hb⟩))
  go_ret3
  exact ⟨rfl,hb⟩
theorem uok_true {hi d : Int} (h : uok hi d = true) : un hi < un d:=by simpa [uok] using h
theorem uok_false {hi d : Int} (h : uok hi d = false) : un d ≤ un hi:=by simpa [uok] using h
theorem udiv_any (lo hi d : Int) (w : World) (hd : cellR d) :
    Calls Tryz.prog 92 #[.int .i64 lo,.int .i64 hi,.int .i64 d] w fun e w' => e = .returned (.tuple #[.int .i64 (uq lo hi d),.int .i64 (ur lo hi d),.int .i64 (uc hi d)]) ∧ Below w.heap.size w w':=by
  have e1:=un_cast lo;have e2:=un_cast hi;have e3:=un_cast d;have b1:=zqh (un_lt lo);have b3:=zqh (un_lt d)
  by_cases h0 : d = 0
  · have e4 : un d = 0:=(un_zero hd).2 h0
    have hk : uok hi d = false:=by simp [uok,e4]
    clear hd;have e5 : IntKind.u64.wrap d = 0:=by rw [e3,e4]; rfl
    subst h0;have H:=zqh hk;clear e3 e4 hk;go_enter Tryz.func92,Tryz.ntmps92;(go_wp2_with (go_at_call 210; refine (divide_zero _ _ _).mono ?_; rintro e w1 ⟨rfl,hb⟩))
    go_ret3
    exact ⟨ret_three (by simp [uq,H.out]) (by simp [ur,H.out]) (by simp [uc]),hb⟩
  · have h4 : un d ≠ 0:=fun h => h0 ((un_zero hd).1 h)
    clear hd;cases hk : uok hi d
    · have h5:=uok_false hk
      have H:=zqh hk;clear hk;go_enter Tryz.func92,Tryz.ntmps92;(go_wp2_with (go_at_call 210; refine (divide_range _ _ _ _ (by omega) (by omega)).mono ?_; rintro e w1 ⟨rfl,hb⟩))
      go_ret3
      exact ⟨ret_three (by simp [uq,H.out]) (by simp [ur,H.out]) (by simp [uc,h0,H.out]),hb⟩
    · have h5:=uok_true hk
      have H:=zqh hk;clear hk;obtain ⟨Q,hQ⟩ : ∃ Q : Nat,Hid ((un hi * 18446744073709551616 + un lo) / un d = Q):=⟨_,zqh rfl⟩;obtain ⟨R,hR⟩ : ∃ R : Nat,Hid ((un hi * 18446744073709551616 + un lo) % un d = R):=⟨_,zqh rfl⟩;go_enter Tryz.func92,Tryz.ntmps92;(go_wp2_with (go_at_call 210; refine (divide_ok _ _ _ Q R _ h5 b1.out b3.out hQ hR).mono ?_; rintro e w1 ⟨rfl,hb⟩))
      go_ret3
      exact ⟨ret_three (by rw [uq,if_pos H.out,hQ.out]) (by rw [ur,if_pos H.out,hR.out]) (by rw [uc,if_neg h0,if_pos H.out]),hb⟩
theorem pair_abs (lo hi : Int) : (pr lo hi).natAbs / 18446744073709551616 * 18446744073709551616 + (pr lo hi).natAbs % 18446744073709551616 = (pr lo hi).natAbs:=by omega
theorem sok_of (lo hi d : Int) (hd : d ≠ 0) :
    (((pr lo hi).natAbs / 18446744073709551616 ≥ d.natAbs → sok lo hi d = false)) ∧
    ((decide (hi < 0) != decide (d < 0)) = true → (pr lo hi).natAbs / d.natAbs ≤ 9223372036854775808 → sok lo hi d = true ∧ (pr lo hi).tdiv d = -(((pr lo hi).natAbs / d.natAbs : Nat) : Int)) ∧
    ((decide (hi < 0) != decide (d < 0)) = true → 9223372036854775808 < (pr lo hi).natAbs / d.natAbs → sok lo hi d = false) ∧
    ((decide (hi < 0) != decide (d < 0)) = false → (pr lo hi).natAbs / d.natAbs ≤ 9223372036854775807 → sok lo hi d = true ∧ (pr lo hi).tdiv d = (((pr lo hi).natAbs / d.natAbs : Nat) : Int)) ∧
    ((decide (hi < 0) != decide (d < 0)) = false → 9223372036854775807 < (pr lo hi).natAbs / d.natAbs → sok lo hi d = false):=by
  have hs : decide (pr lo hi < 0) = decide (hi < 0):=by
    by_cases h : hi < 0
    · simp [h,pr_neg lo hi h]
    · have:=pr_nonneg lo hi (by omega)
      simp [h]; omega
  have e:=tdiv_sign (pr lo hi) d;rw [hs] at e;unfold sok;have hd' : (d != 0) = true:=by simp [hd]
  rw [hd',e];have hD : 0 < d.natAbs:=by omega
  have hbig : (pr lo hi).natAbs / 18446744073709551616 ≥ d.natAbs → 18446744073709551616 ≤ (pr lo hi).natAbs / d.natAbs:=by
    intro h;rw [Nat.le_div_iff_mul_le hD];rw [ge_iff_le,Nat.le_div_iff_mul_le (by omega)] at h;omega
  generalize (pr lo hi).natAbs / d.natAbs = q at *;generalize (decide (hi < 0) != decide (d < 0)) = c at *;refine ⟨fun h => ?_,fun h h1 => ?_,fun h h1 => ?_,fun h h1 => ?_,fun h h1 => ?_⟩
  · have:=hbig h
    cases c <;> simp <;> omega
  all_goals (subst h; simp; try omega)
end Go.Proofs.YtlgnijhemfkflaaGreatDoor
