/- Part 29. -/
import Derived.Test.YtlgnijhemfkflaaGreatDoorSetPrimDividesZero
import Derived.Test.YtlgnijhemfkflaaGreatDoorSetPrimDividesZB
set_option linter.unusedVariables false
set_option linter.unusedSimpArgs false

namespace Go.Proofs.YtlgnijhemfkflaaGreatDoor
open Go.RowKit
set_option linter.unusedVariables false
set_option linter.unusedSimpArgs false
theorem Takes.zero {w : World} {A : Option Addr} {c : Nat} {x : List Int} (h : Takes w 0 A c x) : x = [] := List.eq_nil_of_length_eq_zero h.len
theorem Takes.one {w : World} {A : Option Addr} {c : Nat} {x : List Int} (h : Takes w 1 A c x) : ∃ a g o, x = [a] ∧ A = some ⟨g, o, none⟩ ∧ g < w.heap.size ∧ w.cell? ⟨g, o, none⟩ = some (.int .i64 a) ∧ cellR a := by
  obtain ⟨g, o, e, hg, hc⟩ := h.row.cells (by decide)
  match x, h.len with
  | [a], _ => exact ⟨a, g, o, rfl, e, hg, by simpa using hc 0 (by decide), h.cells a (by simp)⟩
theorem Takes.two {w : World} {A : Option Addr} {c : Nat} {x : List Int} (h : Takes w 2 A c x) : ∃ a b g o, x = [a, b] ∧ A = some ⟨g, o, none⟩ ∧ g < w.heap.size ∧ w.cell? ⟨g, o, none⟩ = some (.int .i64 a) ∧ w.cell? ⟨g, o + 1, none⟩ = some (.int .i64 b) ∧ cellR a ∧ cellR b := by
  obtain ⟨g, o, e, hg, hc⟩ := h.row.cells (by decide)
  match x, h.len with
  | [a, b], _ => exact ⟨a, b, g, o, rfl, e, hg, by simpa using hc 0 (by decide), by simpa using hc 1 (by decide), h.cells a (by simp), h.cells b (by simp)⟩
theorem Takes.three {w : World} {A : Option Addr} {c : Nat} {x : List Int} (h : Takes w 3 A c x) : ∃ a b d g o, x = [a, b, d] ∧ A = some ⟨g, o, none⟩ ∧ g < w.heap.size ∧ w.cell? ⟨g, o, none⟩ = some (.int .i64 a) ∧ w.cell? ⟨g, o + 1, none⟩ = some (.int .i64 b) ∧ w.cell? ⟨g, o + 2, none⟩ = some (.int .i64 d) ∧ cellR a ∧ cellR b ∧ cellR d := by
  obtain ⟨g, o, e, hg, hc⟩ := h.row.cells (by decide)
  match x, h.len with
  | [a, b, d], _ => exact ⟨a, b, d, g, o, rfl, e, hg, by simpa using hc 0 (by decide), by simpa using hc 1 (by decide), by simpa using hc 2 (by decide), h.cells a (by simp), h.cells b (by simp), h.cells d (by simp)⟩
theorem Takes.four {w : World} {A : Option Addr} {c : Nat} {x : List Int} (h : Takes w 4 A c x) : ∃ a b d f g o, x = [a, b, d, f] ∧ A = some ⟨g, o, none⟩ ∧ g < w.heap.size ∧ w.cell? ⟨g, o, none⟩ = some (.int .i64 a) ∧ w.cell? ⟨g, o + 1, none⟩ = some (.int .i64 b) ∧ w.cell? ⟨g, o + 2, none⟩ = some (.int .i64 d) ∧ w.cell? ⟨g, o + 3, none⟩ = some (.int .i64 f) ∧ cellR a ∧ cellR b ∧ cellR d ∧ cellR f := by
  obtain ⟨g, o, e, hg, hc⟩ := h.row.cells (by decide)
  match x, h.len with
  | [a, b, d, f], _ => exact ⟨a, b, d, f, g, o, rfl, e, hg, by simpa using hc 0 (by decide), by simpa using hc 1 (by decide), by simpa using hc 2 (by decide), by simpa using hc 3 (by decide), h.cells a (by simp), h.cells b (by simp), h.cells d (by simp), h.cells f (by simp)⟩
theorem two_row (w : World) (a b : Int) : Row (w.alloc (.cells #[.int .i64 a, .int .i64 b] 3)) (some ⟨w.heap.size, 0, none⟩) 2 2 [a, b] := by
  obtain ⟨_, _, e, h⟩ := Owns.row (l := [a, b]) (World.ownsRow_lit (base := 0) (e := 3) (size := 1) w #[.int .i64 a, .int .i64 b] 2 (Nat.zero_le _) (by unfold maxLen; omega) rfl);injection e with e1 e2 e3
  subst e1 e3;exact h
theorem rowN_two (w : World) (a b : Int) : RowN w.heap.size (w.alloc (.cells #[.int .i64 a, .int .i64 b] 3)) (some ⟨w.heap.size, 0, none⟩) 2 2 [a, b] := ⟨two_row w a b, fun q e => by cases e; exact Nat.le_refl _⟩
set_option maxRecDepth 100000 in
set_option maxHeartbeats 4000000 in
theorem restFirst_any (q r C : Int) (w : World) : Calls Tryz.prog 84 #[.int .i64 q, .int .i64 r, .int .i64 C] w (CellOut [r, q] C w) := by
  go_enter Tryz.func84, Tryz.ntmps84;go_wp2;go_ret2;exact ⟨_, _, _, rfl, fun _ => rowN_two w r q, al_one _ _⟩
set_option maxRecDepth 100000 in
set_option maxHeartbeats 4000000 in
theorem wide1 (w : World) (A : Option Addr) (c : Nat) (x : List Int) (hx : Takes w 2 A c x) : Calls Tryz.prog 83 #[.slice A 2 c] w (CellOut [dr (x.getD 0 0) (x.getD 1 0), dq (x.getD 0 0) (x.getD 1 0)] (dc (x.getD 1 0)) w) := by
  obtain ⟨a, b, g, o, rfl, rfl, hg, c0, c1, ha, hb⟩ := hx.two;show Calls _ _ _ _ (CellOut [dr a b, dq a b] (dc b) w);clear hx;go_enter Tryz.func83, Tryz.ntmps83;go_upto_region 1 with fail
  refine wp_region_noPanic ?_;refine wp_region_held_drew (S := fun a => Below w.heap.size w a) (by kernel_rfl) ?_ (fun hHeld => ?_)
  · exact (Below.refl _ _).drew
  refine zqt (i := 0) (v := ?v0a2) ?y0a2 ?r0a2
  case y0a2 =>
    intro u hSu;(try dsimp only at hSu);go_simp;(try with_reducible rfl)
  (try simp only [zq0, zq1, zq2, Act.put, zq3, zq4, zq5]);refine zqt (i := 1) (v := ?v1a2) ?y1a2 ?r1a2
  case y1a2 =>
    intro u hSu;(try dsimp only at hSu);go_simp;(try with_reducible rfl)
  (try simp only [zq0, zq1, zq2, Act.put, zq3, zq4, zq5]);refine zqt (i := 2) (v := ?v2a2) ?y2a2 ?r2a2
  case y2a2 =>
    intro u hSu;(try dsimp only at hSu);have q0 := (hSu.cell (p := ⟨g, o, none⟩) hg).trans c0;have q1 := (hSu.cell (p := ⟨g, o + 1, none⟩) hg).trans c1;go_simp;(try with_reducible rfl)
  (try simp only [zq0, zq1, zq2, Act.put, zq3, zq4, zq5]);refine zqt (i := 3) (v := ?v3a2) ?y3a2 ?r3a2
  case y3a2 =>
    intro u hSu;(try dsimp only at hSu);go_simp;(try with_reducible rfl)
  (try simp only [zq0, zq1, zq2, Act.put, zq3, zq4, zq5]);refine zqt (i := 4) (v := ?v4a2) ?y4a2 ?r4a2
  case y4a2 =>
    intro u hSu;(try dsimp only at hSu);go_simp;(try with_reducible rfl)
  (try simp only [zq0, zq1, zq2, Act.put, zq3, zq4, zq5]);refine zqt (i := 5) (v := ?v5a2) ?y5a2 ?r5a2
  case y5a2 =>
    intro u hSu;(try dsimp only at hSu);have q0 := (hSu.cell (p := ⟨g, o, none⟩) hg).trans c0;have q1 := (hSu.cell (p := ⟨g, o + 1, none⟩) hg).trans c1;go_simp;(try with_reducible rfl)
  (try simp only [zq0, zq1, zq2, Act.put, zq3, zq4, zq5]);refine wpAnyH_ready (rs := [6]) (by kernel_rfl) (by simp) ?_;refine AllReadyH.cons (o := _) rfl (fun K hK => ?_) AllReadyH.nil;go_simp;refine (div_any a b _ ha hb).mono ?_;rintro e u1 ⟨rfl, bb⟩;have hN := below_then hHeld bb;(go_wp2_with fail);clear bb;clear hHeld;refine hK.out _ _ hN (fun hHeld => ?_);clear hK K hN;(try simp only [zq0, zq1, zq2, Act.put, zq3, zq4, zq5]);refine zqt (i := 7) (v := ?v7a2) ?y7a2 ?r7a2
  case y7a2 =>
    intro u hSu;(try dsimp only at hSu);go_simp;(try with_reducible rfl)
  (try simp only [zq0, zq1, zq2, Act.put, zq3, zq4, zq5]);refine zqt (i := 8) (v := ?v8a2) ?y8a2 ?r8a2
  case y8a2 =>
    intro u hSu;(try dsimp only at hSu);go_simp;(try with_reducible rfl)
  (try simp only [zq0, zq1, zq2, Act.put, zq3, zq4, zq5]);refine zqt (i := 9) (v := ?v9a2) ?y9a2 ?r9a2
  case y9a2 =>
    intro u hSu;(try dsimp only at hSu);go_simp;(try with_reducible rfl)
  (try simp only [zq0, zq1, zq2, Act.put, zq3, zq4, zq5]);refine wpAnyH_ready (rs := [10]) (by kernel_rfl) (by simp) ?_;refine AllReadyH.cons (o := _) rfl (fun K hK => ?_) AllReadyH.nil;go_simp;refine (restFirst_any _ _ _ _).mono ?_;rintro e u2 ⟨B, m, d, rfl, hr, bb⟩;have hN := below_then hHeld bb;have HB := Lib.hid hN;have HS := Lib.hid hHeld.size;(go_wp2_with fail);clear bb;clear hHeld;refine hK.out _ _ hN (fun hHeld => ?_);clear hK K hN;(try simp only [zq0, zq1, zq2, Act.put, zq3, zq4, zq5]);refine zqt (i := 11) (v := ?v11a2) ?y11a2 ?r11a2
  case y11a2 =>
    intro u hSu;(try dsimp only at hSu);go_simp;(try with_reducible rfl)
  (try simp only [zq0, zq1, zq2, Act.put, zq3, zq4, zq5]);refine zqt (i := 12) (v := ?v12a2) ?y12a2 ?r12a2
  case y12a2 =>
    intro u hSu;(try dsimp only at hSu);go_simp;(try with_reducible rfl)
  (try simp only [zq0, zq1, zq2, Act.put, zq3, zq4, zq5]);refine zqt (i := 13) (v := ?v13a2) ?y13a2 ?r13a2
  case y13a2 =>
    intro u hSu;(try dsimp only at hSu);go_simp;(try with_reducible rfl)
  (try simp only [zq0, zq1, zq2, Act.put, zq3, zq4, zq5]);refine zqt (i := 14) (v := ?v14a2) ?y14a2 ?r14a2
  case y14a2 =>
    intro u hSu;(try dsimp only at hSu);go_simp;(try with_reducible rfl)
  (try simp only [zq0, zq1, zq2, Act.put, zq3, zq4, zq5]);refine wpAnyH_done (by kernel_rfl) ?_ _;refine NoPanic.normal ?_;(go_wp2_with fail);go_ret2;exact ⟨B, m, d, rfl, fun hz => (hr hz).le HS.out, HB.out⟩
end Go.Proofs.YtlgnijhemfkflaaGreatDoor

namespace Go.Proofs.YtlgnijhemfkflaaGreatDoor
open Go.RowKit
set_option linter.unusedVariables false
set_option linter.unusedSimpArgs false
set_option maxRecDepth 100000 in
set_option maxHeartbeats 4000000 in
theorem reckonedOfTwo1 (W : World) (p : Addr) (s : ByteArray) (hp : W.cell? p = some (.string s)) (hpl : p.block < W.heap.size) (w : World) (A : Option Addr) (c : Nat) (x : List Int) (b0 : Kp W w) (hx : Takes w 2 A c x) :
    Calls Tryz.prog 79 #[.slice A 2 c, .pointer (some p)] w (CellOut [(twoF s.data.toList (x.getD 0 0) (x.getD 1 0)).getD 0] (divC s.data.toList (x.getD 1 0)) w) := by
  obtain ⟨a, b, g, o, rfl, rfl, hg, c0, c1, ha, hb⟩ := hx.two;show Calls _ _ _ _ (CellOut [(twoF s.data.toList a b).getD 0] (divC s.data.toList b) w);clear hx;have HP : Hid (w.cell? p = some (.string s)) := (b0.cell hpl).trans hp;have hpw : p.block < w.heap.size := Nat.lt_of_lt_of_le hpl b0.size;clear hp hpl b0;go_enter Tryz.func79, Tryz.ntmps79;go_upto_region 1 with fail
  refine wp_region_noPanic ?_;refine wp_region_held_drew (S := fun a => Below w.heap.size w a) (by kernel_rfl) ?_ (fun hHeld => ?_)
  · exact (Below.refl _ _).drew
  refine zqt (i := 0) (v := ?v0a3) ?y0a3 ?r0a3
  case y0a3 =>
    intro u hSu;(try dsimp only at hSu);have qp := (hSu.cell (p := p) hpw).trans HP.out;go_simp;(try with_reducible rfl)
  (try simp only [zq0, zq1, zq2, Act.put, zq3, zq4, zq5]);refine zqt (i := 1) (v := ?v1a3) ?y1a3 ?r1a3
  case y1a3 =>
    intro u hSu;(try dsimp only at hSu);go_simp;(try with_reducible rfl)
  (try simp only [zq0, zq1, zq2, Act.put, zq3, zq4, zq5]);refine zqt (i := 2) (v := ?v2a3) ?y2a3 ?r2a3
  case y2a3 =>
    intro u hSu;(try dsimp only at hSu);go_simp;(try with_reducible rfl)
  (try simp only [zq0, zq1, zq2, Act.put, zq3, zq4, zq5]);refine zqt (i := 3) (v := ?v3a3) ?y3a3 ?r3a3
  case y3a3 =>
    intro u hSu;(try dsimp only at hSu);have q0 := (hSu.cell (p := ⟨g, o, none⟩) hg).trans c0;have q1 := (hSu.cell (p := ⟨g, o + 1, none⟩) hg).trans c1;go_simp;(try with_reducible rfl)
  (try simp only [zq0, zq1, zq2, Act.put, zq3, zq4, zq5]);refine zqt (i := 4) (v := ?v4a3) ?y4a3 ?r4a3
  case y4a3 =>
    intro u hSu;(try dsimp only at hSu);go_simp;(try with_reducible rfl)
  (try simp only [zq0, zq1, zq2, Act.put, zq3, zq4, zq5]);refine zqt (i := 5) (v := ?v5a3) ?y5a3 ?r5a3
  case y5a3 =>
    intro u hSu;(try dsimp only at hSu);go_simp;(try with_reducible rfl)
  (try simp only [zq0, zq1, zq2, Act.put, zq3, zq4, zq5]);refine zqt (i := 6) (v := ?v6a3) ?y6a3 ?r6a3
  case y6a3 =>
    intro u hSu;(try dsimp only at hSu);have q0 := (hSu.cell (p := ⟨g, o, none⟩) hg).trans c0;have q1 := (hSu.cell (p := ⟨g, o + 1, none⟩) hg).trans c1;go_simp;(try with_reducible rfl)
  (try simp only [zq0, zq1, zq2, Act.put, zq3, zq4, zq5]);refine wpAnyH_ready (rs := [7]) (by kernel_rfl) (by simp) ?_;refine AllReadyH.cons (o := _) rfl (fun K hK => ?_) AllReadyH.nil;go_simp;refine (two_any s a b _ ha hb).mono ?_;rintro e u1 ⟨rfl, bb⟩;have hN := below_then hHeld bb;have HB := Lib.hid hN;have HS := Lib.hid hN.size;(go_wp2_with fail);clear bb;clear hHeld;refine hK.out _ _ hN (fun hHeld => ?_);clear hK K hN;(try simp only [zq0, zq1, zq2, Act.put, zq3, zq4, zq5]);refine zqt (i := 8) (v := ?v8a3) ?y8a3 ?r8a3
  case y8a3 =>
    intro u hSu;(try dsimp only at hSu);go_simp;(try with_reducible rfl)
  (try simp only [zq0, zq1, zq2, Act.put, zq3, zq4, zq5]);refine zqt (i := 9) (v := ?v9a3) ?y9a3 ?r9a3
  case y9a3 =>
    intro u hSu;(try dsimp only at hSu);go_simp;(try with_reducible rfl)
  (try simp only [zq0, zq1, zq2, Act.put, zq3, zq4, zq5]);refine zqt (i := 10) (v := ?v10a3) ?y10a3 ?r10a3
  case y10a3 =>
    intro u hSu;(try dsimp only at hSu);go_simp;(try with_reducible rfl)
  (try simp only [zq0, zq1, zq2, Act.put, zq3, zq4, zq5]);refine zqt (i := 11) (v := ?v11a3) ?y11a3 ?r11a3
  case y11a3 =>
    intro u hSu;(try dsimp only at hSu);go_simp;(try with_reducible rfl)
  (try simp only [zq0, zq1, zq2, Act.put, zq3, zq4, zq5]);refine zqt (i := 12) (v := ?v12a3) ?y12a3 ?r12a3
  case y12a3 =>
    intro u hSu;(try dsimp only at hSu);go_simp;(try with_reducible rfl)
  (try simp only [zq0, zq1, zq2, Act.put, zq3, zq4, zq5]);refine zqt (i := 13) (v := ?v13a3) ?y13a3 ?r13a3
  case y13a3 =>
    intro u hSu;(try dsimp only at hSu);go_simp;(try with_reducible rfl)
  (try simp only [zq0, zq1, zq2, Act.put, zq3, zq4, zq5]);refine zqt (i := 14) (v := ?v14a3) ?y14a3 ?r14a3
  case y14a3 =>
    intro u hSu;(try dsimp only at hSu);go_simp;(try with_reducible rfl)
  (try simp only [zq0, zq1, zq2, Act.put, zq3, zq4, zq5]);refine wpAnyH_done (by kernel_rfl) ?_ _;refine NoPanic.normal ?_;(go_wp2_with fail);go_ret2;exact ⟨_, _, _, rfl, fun hz => (rowN_one _ _).le HS.out, below_then HB.out (al_one _ _)⟩
set_option maxRecDepth 100000 in
set_option maxHeartbeats 4000000 in
theorem reckonedOfOne1 (W : World) (p : Addr) (s : ByteArray) (hp : W.cell? p = some (.string s)) (hpl : p.block < W.heap.size) (w : World) (A : Option Addr) (c : Nat) (x : List Int) (b0 : Kp W w) (hx : Takes w 1 A c x) :
    Calls Tryz.prog 81 #[.slice A 1 c, .pointer (some p)] w (CellOut [(oneF s.data.toList (x.getD 0 0)).getD 0] 0 w) := by
  obtain ⟨a, g, o, rfl, rfl, hg, c0, ha⟩ := hx.one;show Calls _ _ _ _ (CellOut [(oneF s.data.toList a).getD 0] 0 w);clear hx;have HP : Hid (w.cell? p = some (.string s)) := (b0.cell hpl).trans hp;have hpw : p.block < w.heap.size := Nat.lt_of_lt_of_le hpl b0.size;clear hp hpl b0;go_enter Tryz.func81, Tryz.ntmps81;go_upto_region 1 with fail
  refine wp_region_noPanic ?_;refine wp_region_held_drew (S := fun a => Below w.heap.size w a) (by kernel_rfl) ?_ (fun hHeld => ?_)
  · exact (Below.refl _ _).drew
  refine zqt (i := 0) (v := ?v0a4) ?y0a4 ?r0a4
  case y0a4 =>
    intro u hSu;(try dsimp only at hSu);have qp := (hSu.cell (p := p) hpw).trans HP.out;go_simp;(try with_reducible rfl)
  (try simp only [zq0, zq1, zq2, Act.put, zq3, zq4, zq5]);refine zqt (i := 1) (v := ?v1a4) ?y1a4 ?r1a4
  case y1a4 =>
    intro u hSu;(try dsimp only at hSu);go_simp;(try with_reducible rfl)
  (try simp only [zq0, zq1, zq2, Act.put, zq3, zq4, zq5]);refine zqt (i := 2) (v := ?v2a4) ?y2a4 ?r2a4
  case y2a4 =>
    intro u hSu;(try dsimp only at hSu);go_simp;(try with_reducible rfl)
  (try simp only [zq0, zq1, zq2, Act.put, zq3, zq4, zq5]);refine zqt (i := 3) (v := ?v3a4) ?y3a4 ?r3a4
  case y3a4 =>
    intro u hSu;(try dsimp only at hSu);have q0 := (hSu.cell (p := ⟨g, o, none⟩) hg).trans c0;go_simp;(try with_reducible rfl)
  (try simp only [zq0, zq1, zq2, Act.put, zq3, zq4, zq5]);refine wpAnyH_ready (rs := [4]) (by kernel_rfl) (by simp) ?_;refine AllReadyH.cons (o := _) rfl (fun K hK => ?_) AllReadyH.nil;go_simp;refine (one_any s a _ ha).mono ?_;rintro e u1 ⟨rfl, bb⟩;have hN := below_then hHeld bb;have HB := Lib.hid hN;have HS := Lib.hid hN.size;(go_wp2_with fail);clear bb;clear hHeld;refine hK.out _ _ hN (fun hHeld => ?_);clear hK K hN;(try simp only [zq0, zq1, zq2, Act.put, zq3, zq4, zq5]);refine zqt (i := 5) (v := ?v5a4) ?y5a4 ?r5a4
  case y5a4 =>
    intro u hSu;(try dsimp only at hSu);go_simp;(try with_reducible rfl)
  (try simp only [zq0, zq1, zq2, Act.put, zq3, zq4, zq5]);refine zqt (i := 6) (v := ?v6a4) ?y6a4 ?r6a4
  case y6a4 =>
    intro u hSu;(try dsimp only at hSu);go_simp;(try with_reducible rfl)
  (try simp only [zq0, zq1, zq2, Act.put, zq3, zq4, zq5]);refine zqt (i := 7) (v := ?v7a4) ?y7a4 ?r7a4
  case y7a4 =>
    intro u hSu;(try dsimp only at hSu);go_simp;(try with_reducible rfl)
  (try simp only [zq0, zq1, zq2, Act.put, zq3, zq4, zq5]);refine zqt (i := 8) (v := ?v8a4) ?y8a4 ?r8a4
  case y8a4 =>
    intro u hSu;(try dsimp only at hSu);go_simp;(try with_reducible rfl)
  (try simp only [zq0, zq1, zq2, Act.put, zq3, zq4, zq5]);refine zqt (i := 9) (v := ?v9a4) ?y9a4 ?r9a4
  case y9a4 =>
    intro u hSu;(try dsimp only at hSu);go_simp;(try with_reducible rfl)
  (try simp only [zq0, zq1, zq2, Act.put, zq3, zq4, zq5]);refine wpAnyH_done (by kernel_rfl) ?_ _;refine NoPanic.normal ?_;(go_wp2_with fail);go_ret2;exact ⟨_, _, _, rfl, fun hz => (rowN_one _ _).le HS.out, below_then HB.out (al_one _ _)⟩
theorem smHi_cel (a b : Int) (ha : cellR a) (hb : cellR b) : cellR (smHi a b) := by
  have := prod_bd a b ha hb;unfold cellR smHi; omega
set_option maxRecDepth 100000 in
set_option maxHeartbeats 4000000 in
theorem scaled_any (w : World) (A : Option Addr) (c : Nat) (x : List Int) (hx : Takes w 3 A c x) : Calls Tryz.prog 87 #[.slice A 3 c] w fun e w' => e = .returned (.tuple #[.int .i64 (fq (umLo (x.getD 0 0) (x.getD 1 0)) (smHi (x.getD 0 0) (x.getD 1 0)) (x.getD 2 0)), .int .i64 (fr (umLo (x.getD 0 0) (x.getD 1 0)) (smHi (x.getD 0 0) (x.getD 1 0)) (x.getD 2 0)), .int .i64 (fc (umLo (x.getD 0 0) (x.getD 1 0)) (smHi (x.getD 0 0) (x.getD 1 0)) (x.getD 2 0))]) ∧ Below w.heap.size w w' := by
  obtain ⟨a, b, d, g, o, rfl, rfl, hg, c0, c1, c2, ha, hb, hd⟩ := hx.three;show Calls _ _ _ _ (fun e w' => e = .returned (.tuple #[.int .i64 (fq (umLo a b) (smHi a b) d), .int .i64 (fr (umLo a b) (smHi a b) d), .int .i64 (fc (umLo a b) (smHi a b) d)]) ∧ Below w.heap.size w w');clear hx;have hh := smHi_cel a b ha hb;go_enter Tryz.func87, Tryz.ntmps87;go_upto_region 1 with fail
  refine wp_region_noPanic ?_;refine wp_region_held_drew (S := fun a => Below w.heap.size w a) (by kernel_rfl) ?_ (fun hHeld => ?_)
  · exact (Below.refl _ _).drew
  refine zqt (i := 0) (v := ?v0a5) ?y0a5 ?r0a5
  case y0a5 =>
    intro u hSu;(try dsimp only at hSu);go_simp;(try with_reducible rfl)
  (try simp only [zq0, zq1, zq2, Act.put, zq3, zq4, zq5]);refine zqt (i := 1) (v := ?v1a5) ?y1a5 ?r1a5
  case y1a5 =>
    intro u hSu;(try dsimp only at hSu);go_simp;(try with_reducible rfl)
  (try simp only [zq0, zq1, zq2, Act.put, zq3, zq4, zq5]);refine zqt (i := 2) (v := ?v2a5) ?y2a5 ?r2a5
  case y2a5 =>
    intro u hSu;(try dsimp only at hSu);have q0 := (hSu.cell (p := ⟨g, o, none⟩) hg).trans c0;have q1 := (hSu.cell (p := ⟨g, o + 1, none⟩) hg).trans c1;go_simp;(try with_reducible rfl)
  (try simp only [zq0, zq1, zq2, Act.put, zq3, zq4, zq5]);refine zqt (i := 3) (v := ?v3a5) ?y3a5 ?r3a5
  case y3a5 =>
    intro u hSu;(try dsimp only at hSu);go_simp;(try with_reducible rfl)
  (try simp only [zq0, zq1, zq2, Act.put, zq3, zq4, zq5]);refine zqt (i := 4) (v := ?v4a5) ?y4a5 ?r4a5
  case y4a5 =>
    intro u hSu;(try dsimp only at hSu);go_simp;(try with_reducible rfl)
  (try simp only [zq0, zq1, zq2, Act.put, zq3, zq4, zq5]);refine zqt (i := 5) (v := ?v5a5) ?y5a5 ?r5a5
  case y5a5 =>
    intro u hSu;(try dsimp only at hSu);have q0 := (hSu.cell (p := ⟨g, o, none⟩) hg).trans c0;have q1 := (hSu.cell (p := ⟨g, o + 1, none⟩) hg).trans c1;go_simp;(try with_reducible rfl)
  (try simp only [zq0, zq1, zq2, Act.put, zq3, zq4, zq5]);refine wpAnyH_ready (rs := [6]) (by kernel_rfl) (by simp) ?_;refine AllReadyH.cons (o := _) rfl (fun K hK => ?_) AllReadyH.nil;go_simp;refine (mul_any a b _ ha hb).mono ?_;rintro e u1 ⟨rfl, rfl⟩;have hN := hHeld;have HB := Lib.hid hN;have HS := Lib.hid hN.size;(go_wp2_with fail);clear hHeld;refine hK.out _ _ hN (fun hHeld => ?_);clear hK K hN;(try simp only [zq0, zq1, zq2, Act.put, zq3, zq4, zq5]);refine zqt (i := 7) (v := ?v7a5) ?y7a5 ?r7a5
  case y7a5 =>
    intro u hSu;(try dsimp only at hSu);go_simp;(try with_reducible rfl)
  (try simp only [zq0, zq1, zq2, Act.put, zq3, zq4, zq5]);refine zqt (i := 8) (v := ?v8a5) ?y8a5 ?r8a5
  case y8a5 =>
    intro u hSu;(try dsimp only at hSu);go_simp;(try with_reducible rfl)
  (try simp only [zq0, zq1, zq2, Act.put, zq3, zq4, zq5]);refine zqt (i := 9) (v := ?v9a5) ?y9a5 ?r9a5
  case y9a5 =>
    intro u hSu;(try dsimp only at hSu);go_simp;(try with_reducible rfl)
  (try simp only [zq0, zq1, zq2, Act.put, zq3, zq4, zq5]);refine zqt (i := 10) (v := ?v10a5) ?y10a5 ?r10a5
  case y10a5 =>
    intro u hSu;(try dsimp only at hSu);go_simp;(try with_reducible rfl)
  (try simp only [zq0, zq1, zq2, Act.put, zq3, zq4, zq5]);refine zqt (i := 11) (v := ?v11a5) ?y11a5 ?r11a5
  case y11a5 =>
    intro u hSu;(try dsimp only at hSu);go_simp;(try with_reducible rfl)
  (try simp only [zq0, zq1, zq2, Act.put, zq3, zq4, zq5]);refine wpAnyH_done (by kernel_rfl) ?_ _;refine NoPanic.normal ?_;have q2 := (HB.out.cell (p := ⟨g, o + 2, none⟩) hg).trans c2;have HC := Lib.hid fun w => fdiv_any (umLo a b) (smHi a b) d w hh hd
  (go_wp2_with fail);refine (HC.out _).mono ?_;rintro e u2 ⟨rfl, bb⟩;have B2 := Lib.hid (below_then HB.out bb);clear HC bb;(go_wp2_with fail)
  go_ret3
  exact ⟨rfl, B2.out⟩
set_option maxRecDepth 100000 in
set_option maxHeartbeats 4000000 in
theorem wide2 (w : World) (A : Option Addr) (c : Nat) (x : List Int) (hx : Takes w 3 A c x) : Calls Tryz.prog 86 #[.slice A 3 c] w (CellOut [(fq (umLo (x.getD 0 0) (x.getD 1 0)) (smHi (x.getD 0 0) (x.getD 1 0)) (x.getD 2 0))] (fc (umLo (x.getD 0 0) (x.getD 1 0)) (smHi (x.getD 0 0) (x.getD 1 0)) (x.getD 2 0)) w) := by
  have HC := Lib.hid (scaled_any w A c x hx);generalize (fq (umLo (x.getD 0 0) (x.getD 1 0)) (smHi (x.getD 0 0) (x.getD 1 0)) (x.getD 2 0)) = q at HC ⊢;generalize (fr (umLo (x.getD 0 0) (x.getD 1 0)) (smHi (x.getD 0 0) (x.getD 1 0)) (x.getD 2 0)) = r at HC ⊢;generalize (fc (umLo (x.getD 0 0) (x.getD 1 0)) (smHi (x.getD 0 0) (x.getD 1 0)) (x.getD 2 0)) = C at HC ⊢;clear hx;go_enter Tryz.func86, Tryz.ntmps86;(go_wp2_with fail);refine HC.out.mono ?_;rintro e u ⟨rfl, bb⟩;have B2 := Lib.hid bb;clear HC bb;(go_wp2_with fail);go_ret2;exact ⟨_, _, _, rfl, fun hz => (rowN_one _ _).le B2.out.size, below_then B2.out (al_one _ _)⟩
set_option maxRecDepth 100000 in
set_option maxHeartbeats 4000000 in
theorem wide3 (w : World) (A : Option Addr) (c : Nat) (x : List Int) (hx : Takes w 3 A c x) : Calls Tryz.prog 88 #[.slice A 3 c] w (CellOut [(fr (umLo (x.getD 0 0) (x.getD 1 0)) (smHi (x.getD 0 0) (x.getD 1 0)) (x.getD 2 0)), (fq (umLo (x.getD 0 0) (x.getD 1 0)) (smHi (x.getD 0 0) (x.getD 1 0)) (x.getD 2 0))] (fc (umLo (x.getD 0 0) (x.getD 1 0)) (smHi (x.getD 0 0) (x.getD 1 0)) (x.getD 2 0)) w) := by
  have HC := Lib.hid (scaled_any w A c x hx);generalize (fq (umLo (x.getD 0 0) (x.getD 1 0)) (smHi (x.getD 0 0) (x.getD 1 0)) (x.getD 2 0)) = q at HC ⊢;generalize (fr (umLo (x.getD 0 0) (x.getD 1 0)) (smHi (x.getD 0 0) (x.getD 1 0)) (x.getD 2 0)) = r at HC ⊢;generalize (fc (umLo (x.getD 0 0) (x.getD 1 0)) (smHi (x.getD 0 0) (x.getD 1 0)) (x.getD 2 0)) = C at HC ⊢;clear hx;go_enter Tryz.func88, Tryz.ntmps88;(go_wp2_with fail);refine HC.out.mono ?_;rintro e u ⟨rfl, bb⟩;have B2 := Lib.hid bb;clear HC bb;(go_wp2_with fail);refine (restFirst_any _ _ _ _).mono ?_;rintro e u2 ⟨B, m, d, rfl, hr, bb⟩;have B3 := Lib.hid (below_then B2.out bb);have HR := Lib.hid hr;clear bb hr;(go_wp2_with fail);go_ret2;exact ⟨B, m, d, rfl, fun hz => (HR.out hz).le B2.out.size, B3.out⟩
set_option maxRecDepth 100000 in
set_option maxHeartbeats 4000000 in
theorem truth_any (b : Bool) (w : World) : Calls Tryz.prog 97 #[.bool b] w fun e w' => e = .returned (.int .i64 (truthN b)) ∧ w = w' := by
  go_enter Tryz.func97, Tryz.ntmps97;cases b
  · go_wp2
    go_ret;exact ⟨rfl, rfl⟩
  · go_wp2
    go_ret;exact ⟨rfl, rfl⟩
set_option maxRecDepth 100000 in
set_option maxHeartbeats 4000000 in
theorem wide4 (w : World) (A : Option Addr) (c : Nat) (x : List Int) (hx : Takes w 1 A c x) : Calls Tryz.prog 96 #[.slice A 1 c] w (CellOut [x.getD 0 0, truthN (decide (x.getD 0 0 < 0))] 0 w) := by
  obtain ⟨a, g, o, rfl, rfl, hg, c0, ha⟩ := hx.one;show Calls _ _ _ _ (CellOut [a, truthN (decide (a < 0))] 0 w);clear hx;go_enter Tryz.func96, Tryz.ntmps96;go_upto_region 1 with fail
  refine wp_region_noPanic ?_;refine wp_region_held_drew (S := fun a => Below w.heap.size w a) (by kernel_rfl) ?_ (fun hHeld => ?_)
  · exact (Below.refl _ _).drew
  refine zqt (i := 0) (v := ?v0a6) ?y0a6 ?r0a6
  case y0a6 =>
    intro u hSu;(try dsimp only at hSu);go_simp;(try with_reducible rfl)
  (try simp only [zq0, zq1, zq2, Act.put, zq3, zq4, zq5]);refine zqt (i := 1) (v := ?v1a6) ?y1a6 ?r1a6
  case y1a6 =>
    intro u hSu;(try dsimp only at hSu);go_simp;(try with_reducible rfl)
  (try simp only [zq0, zq1, zq2, Act.put, zq3, zq4, zq5]);refine zqt (i := 2) (v := ?v2a6) ?y2a6 ?r2a6
  case y2a6 =>
    intro u hSu;(try dsimp only at hSu);have q0 := (hSu.cell (p := ⟨g, o, none⟩) hg).trans c0;go_simp;(try with_reducible rfl)
  (try simp only [zq0, zq1, zq2, Act.put, zq3, zq4, zq5]);refine zqt (i := 3) (v := ?v3a6) ?y3a6 ?r3a6
  case y3a6 =>
    intro u hSu;(try dsimp only at hSu);go_simp;(try with_reducible rfl)
  (try simp only [zq0, zq1, zq2, Act.put, zq3, zq4, zq5]);refine zqt (i := 4) (v := ?v4a6) ?y4a6 ?r4a6
  case y4a6 =>
    intro u hSu;(try dsimp only at hSu);go_simp;(try with_reducible rfl)
  (try simp only [zq0, zq1, zq2, Act.put, zq3, zq4, zq5]);refine zqt (i := 5) (v := ?v5a6) ?y5a6 ?r5a6
  case y5a6 =>
    intro u hSu;(try dsimp only at hSu);have q0 := (hSu.cell (p := ⟨g, o, none⟩) hg).trans c0;go_simp;(try with_reducible rfl)
  (try simp only [zq0, zq1, zq2, Act.put, zq3, zq4, zq5]);refine zqt (i := 6) (v := ?v6a6) ?y6a6 ?r6a6
  case y6a6 =>
    intro u hSu;(try dsimp only at hSu);go_simp;(try with_reducible rfl)
  (try simp only [zq0, zq1, zq2, Act.put, zq3, zq4, zq5]);refine wpAnyH_ready (rs := [7]) (by kernel_rfl) (by simp) ?_;refine AllReadyH.cons (o := _) rfl (fun K hK => ?_) AllReadyH.nil;go_simp;refine (truth_any _ _).mono ?_;rintro e u1 ⟨rfl, rfl⟩;have hN := hHeld;have HB := Lib.hid hN;have HS := Lib.hid hN.size;(go_wp2_with fail);clear hHeld;refine hK.out _ _ hN (fun hHeld => ?_);clear hK K hN;(try simp only [zq0, zq1, zq2, Act.put, zq3, zq4, zq5]);refine wpAnyH_ready (rs := [8]) (by kernel_rfl) (by simp) ?_;refine AllReadyH.cons (o := _) rfl (fun K hK => ?_) AllReadyH.nil;go_simp;(go_wp2_with fail);have HS := Lib.hid hHeld.size;refine hK.out _ _ (below_then hHeld (al_one _ _)) (fun hHeld => ?_);have HB := Lib.hid hHeld;clear hK K;(try simp only [zq0, zq1, zq2, Act.put, zq3, zq4, zq5]);refine zqt (i := 9) (v := ?v9a6) ?y9a6 ?r9a6
  case y9a6 =>
    intro u hSu;(try dsimp only at hSu);go_simp;(try with_reducible rfl)
  (try simp only [zq0, zq1, zq2, Act.put, zq3, zq4, zq5]);refine zqt (i := 10) (v := ?v10a6) ?y10a6 ?r10a6
  case y10a6 =>
    intro u hSu;(try dsimp only at hSu);go_simp;(try with_reducible rfl)
  (try simp only [zq0, zq1, zq2, Act.put, zq3, zq4, zq5]);refine wpAnyH_done (by kernel_rfl) ?_ _;refine NoPanic.normal ?_;(go_wp2_with fail);go_ret2;exact ⟨_, _, _, rfl, fun hz => (rowN_two _ _ _).le HS.out, HB.out⟩
set_option maxRecDepth 100000 in
set_option maxHeartbeats 4000000 in
theorem wide5 (w : World) (A : Option Addr) (c : Nat) (x : List Int) (hx : Takes w 3 A c x) : Calls Tryz.prog 98 #[.slice A 3 c] w (CellOut [truthN (withinB (x.getD 0 0) (x.getD 1 0) (x.getD 2 0))] 0 w) := by
  obtain ⟨a, b, d, g, o, rfl, rfl, hg, c0, c1, c2, ha, hb, hd⟩ := hx.three;show Calls _ _ _ _ (CellOut [truthN (withinB a b d)] 0 w);clear hx;go_enter Tryz.func98, Tryz.ntmps98;go_upto_region 1 with fail
  refine wp_region_noPanic ?_;refine wp_region_held_drew (S := fun a => Below w.heap.size w a) (by kernel_rfl) ?_ (fun hHeld => ?_)
  · exact (Below.refl _ _).drew
  refine zqt (i := 0) (v := ?v0a7) ?y0a7 ?r0a7
  case y0a7 =>
    intro u hSu;(try dsimp only at hSu);go_simp;(try with_reducible rfl)
  (try simp only [zq0, zq1, zq2, Act.put, zq3, zq4, zq5]);refine zqt (i := 1) (v := ?v1a7) ?y1a7 ?r1a7
  case y1a7 =>
    intro u hSu;(try dsimp only at hSu);go_simp;(try with_reducible rfl)
  (try simp only [zq0, zq1, zq2, Act.put, zq3, zq4, zq5]);refine zqt (i := 2) (v := ?v2a7) ?y2a7 ?r2a7
  case y2a7 =>
    intro u hSu;(try dsimp only at hSu);have q0 := (hSu.cell (p := ⟨g, o, none⟩) hg).trans c0;have q1 := (hSu.cell (p := ⟨g, o + 1, none⟩) hg).trans c1;have q2 := (hSu.cell (p := ⟨g, o + 2, none⟩) hg).trans c2;go_simp;(try with_reducible rfl)
  (try simp only [zq0, zq1, zq2, Act.put, zq3, zq4, zq5]);refine zqt (i := 3) (v := ?v3a7) ?y3a7 ?r3a7
  case y3a7 =>
    intro u hSu;(try dsimp only at hSu);go_simp;(try with_reducible rfl)
  (try simp only [zq0, zq1, zq2, Act.put, zq3, zq4, zq5]);refine zqt (i := 4) (v := ?v4a7) ?y4a7 ?r4a7
  case y4a7 =>
    intro u hSu;(try dsimp only at hSu);go_simp;(try with_reducible rfl)
  (try simp only [zq0, zq1, zq2, Act.put, zq3, zq4, zq5]);refine zqt (i := 5) (v := ?v5a7) ?y5a7 ?r5a7
  case y5a7 =>
    intro u hSu;(try dsimp only at hSu);have q0 := (hSu.cell (p := ⟨g, o, none⟩) hg).trans c0;have q1 := (hSu.cell (p := ⟨g, o + 1, none⟩) hg).trans c1;have q2 := (hSu.cell (p := ⟨g, o + 2, none⟩) hg).trans c2;go_simp;(try with_reducible rfl)
  (try simp only [zq0, zq1, zq2, Act.put, zq3, zq4, zq5]);refine zqt (i := 6) (v := ?v6a7) ?y6a7 ?r6a7
  case y6a7 =>
    intro u hSu;(try dsimp only at hSu);go_simp;(try with_reducible rfl)
  (try simp only [zq0, zq1, zq2, Act.put, zq3, zq4, zq5]);refine zqt (i := 7) (v := ?v7a7) ?y7a7 ?r7a7
  case y7a7 =>
    intro u hSu;(try dsimp only at hSu);go_simp;(try with_reducible rfl)
  (try simp only [zq0, zq1, zq2, Act.put, zq3, zq4, zq5]);refine zqt (i := 8) (v := ?v8a7) ?y8a7 ?r8a7
  case y8a7 =>
    intro u hSu;(try dsimp only at hSu);have q0 := (hSu.cell (p := ⟨g, o, none⟩) hg).trans c0;have q1 := (hSu.cell (p := ⟨g, o + 1, none⟩) hg).trans c1;have q2 := (hSu.cell (p := ⟨g, o + 2, none⟩) hg).trans c2;go_simp;(try with_reducible rfl)
  (try simp only [zq0, zq1, zq2, Act.put, zq3, zq4, zq5]);refine wpAnyH_ready (rs := [9]) (by kernel_rfl) (by simp) ?_;refine AllReadyH.cons (o := _) rfl (fun K hK => ?_) AllReadyH.nil;go_simp;refine (within_any _ _ _ _).mono ?_;rintro e u1 ⟨rfl, rfl⟩;have hN := hHeld;have HB := Lib.hid hN;have HS := Lib.hid hN.size;(go_wp2_with fail);clear hHeld;refine hK.out _ _ hN (fun hHeld => ?_);clear hK K hN;(try simp only [zq0, zq1, zq2, Act.put, zq3, zq4, zq5]);refine wpAnyH_ready (rs := [10]) (by kernel_rfl) (by simp) ?_;refine AllReadyH.cons (o := _) rfl (fun K hK => ?_) AllReadyH.nil;go_simp;refine (truth_any _ _).mono ?_;rintro e u1 ⟨rfl, rfl⟩;have hN := hHeld;have HB := Lib.hid hN;have HS := Lib.hid hN.size;(go_wp2_with fail);clear hHeld;refine hK.out _ _ hN (fun hHeld => ?_);clear hK K hN;(try simp only [zq0, zq1, zq2, Act.put, zq3, zq4, zq5]);refine wpAnyH_ready (rs := [11]) (by kernel_rfl) (by simp) ?_;refine AllReadyH.cons (o := _) rfl (fun K hK => ?_) AllReadyH.nil;go_simp;(go_wp2_with fail);have HS := Lib.hid hHeld.size;refine hK.out _ _ (below_then hHeld (al_one _ _)) (fun hHeld => ?_);have HB := Lib.hid hHeld;clear hK K;(try simp only [zq0, zq1, zq2, Act.put, zq3, zq4, zq5]);refine zqt (i := 12) (v := ?v12a7) ?y12a7 ?r12a7
  case y12a7 =>
    intro u hSu;(try dsimp only at hSu);go_simp;(try with_reducible rfl)
  (try simp only [zq0, zq1, zq2, Act.put, zq3, zq4, zq5]);refine zqt (i := 13) (v := ?v13a7) ?y13a7 ?r13a7
  case y13a7 =>
    intro u hSu;(try dsimp only at hSu);go_simp;(try with_reducible rfl)
  (try simp only [zq0, zq1, zq2, Act.put, zq3, zq4, zq5]);refine wpAnyH_done (by kernel_rfl) ?_ _;refine NoPanic.normal ?_;(go_wp2_with fail);go_ret2;exact ⟨_, _, _, rfl, fun hz => (rowN_one _ _).le HS.out, HB.out⟩
end Go.Proofs.YtlgnijhemfkflaaGreatDoor
