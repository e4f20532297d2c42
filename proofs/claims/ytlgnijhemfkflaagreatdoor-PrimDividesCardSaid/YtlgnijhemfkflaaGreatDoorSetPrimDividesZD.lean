/- Part 30. -/
import Derived.Test.YtlgnijhemfkflaaGreatDoorSetPrimDividesZero
import Derived.Test.YtlgnijhemfkflaaGreatDoorSetPrimDividesZC
set_option linter.unusedVariables false
set_option linter.unusedSimpArgs false

namespace Go.Proofs.YtlgnijhemfkflaaGreatDoor
open Go.RowKit
set_option linter.unusedVariables false
set_option linter.unusedSimpArgs false
set_option maxRecDepth 100000 in
set_option maxHeartbeats 4000000 in
theorem multiplied1 (W : World) (p : Addr) (g0 : FuncId) (eg : Ent g0) (hp : W.cell? p = some (.func (.func g0) #[] #[])) (hpl : p.block < W.heap.size) (X Y : Int → Int → Int)
    (hc : ∀ a b w, cellR a → cellR b → Calls Tryz.prog g0 #[.int .i64 a, .int .i64 b] w fun e w' => e = .returned (.tuple #[.int .i64 (X a b), .int .i64 (Y a b)]) ∧ Below w.heap.size w w')
    (w : World) (A : Option Addr) (c : Nat) (x : List Int) (b0 : Kp W w) (hx : Takes w 2 A c x) :
    Calls Tryz.prog 207 #[.slice A 2 c, .pointer (some p)] w (CellOut [X (x.getD 0 0) (x.getD 1 0), Y (x.getD 0 0) (x.getD 1 0)] 0 w) := by
  obtain ⟨a, b, g, o, rfl, rfl, hg, c0, c1, ha, hb⟩ := hx.two;show Calls _ _ _ _ (CellOut [X a b, Y a b] 0 w);have HC := Lib.hid fun w => hc a b w ha hb
  clear hx hc;have HP : Hid (w.cell? p = some (.func (.func g0) #[] #[])) := (b0.cell hpl).trans hp;have hpw : p.block < w.heap.size := Nat.lt_of_lt_of_le hpl b0.size;clear hp hpl b0;go_enter Tryz.func207, Tryz.ntmps207;go_upto_region 1 with fail
  refine wp_region_noPanic ?_;refine wp_region_held_drew (S := fun a => Below w.heap.size w a) (by kernel_rfl) ?_ (fun hHeld => ?_)
  · exact (Below.refl _ _).drew
  refine zqt (i := 0) (v := ?v0a8) ?y0a8 ?r0a8
  case y0a8 =>
    intro u hSu;(try dsimp only at hSu);have qp := (hSu.cell (p := p) hpw).trans HP.out;go_simp;(try with_reducible rfl)
  (try simp only [zq0, zq1, zq2, Act.put, zq3, zq4, zq5]);refine zqt (i := 1) (v := ?v1a8) ?y1a8 ?r1a8
  case y1a8 =>
    intro u hSu;(try dsimp only at hSu);go_simp;(try with_reducible rfl)
  (try simp only [zq0, zq1, zq2, Act.put, zq3, zq4, zq5]);refine zqt (i := 2) (v := ?v2a8) ?y2a8 ?r2a8
  case y2a8 =>
    intro u hSu;(try dsimp only at hSu);go_simp;(try with_reducible rfl)
  (try simp only [zq0, zq1, zq2, Act.put, zq3, zq4, zq5]);refine zqt (i := 3) (v := ?v3a8) ?y3a8 ?r3a8
  case y3a8 =>
    intro u hSu;(try dsimp only at hSu);have q0 := (hSu.cell (p := ⟨g, o, none⟩) hg).trans c0;have q1 := (hSu.cell (p := ⟨g, o + 1, none⟩) hg).trans c1;go_simp;(try with_reducible rfl)
  (try simp only [zq0, zq1, zq2, Act.put, zq3, zq4, zq5]);refine zqt (i := 4) (v := ?v4a8) ?y4a8 ?r4a8
  case y4a8 =>
    intro u hSu;(try dsimp only at hSu);go_simp;(try with_reducible rfl)
  (try simp only [zq0, zq1, zq2, Act.put, zq3, zq4, zq5]);refine zqt (i := 5) (v := ?v5a8) ?y5a8 ?r5a8
  case y5a8 =>
    intro u hSu;(try dsimp only at hSu);go_simp;(try with_reducible rfl)
  (try simp only [zq0, zq1, zq2, Act.put, zq3, zq4, zq5]);refine zqt (i := 6) (v := ?v6a8) ?y6a8 ?r6a8
  case y6a8 =>
    intro u hSu;(try dsimp only at hSu);have q0 := (hSu.cell (p := ⟨g, o, none⟩) hg).trans c0;have q1 := (hSu.cell (p := ⟨g, o + 1, none⟩) hg).trans c1;go_simp;(try with_reducible rfl)
  (try simp only [zq0, zq1, zq2, Act.put, zq3, zq4, zq5]);refine wpAnyH_ready (rs := [7]) (by kernel_rfl) (by simp) ?_;refine AllReadyH.cons (o := _) rfl (fun K hK => ?_) AllReadyH.nil;go_simp;refine (HC.out _).mono ?_;rintro e u1 ⟨rfl, bb⟩;have hN := below_then hHeld bb;have HB := Lib.hid hN;have HS := Lib.hid hN.size;(go_wp2_with fail);clear bb;clear hHeld;refine hK.out _ _ hN (fun hHeld => ?_);clear hK K hN;(try simp only [zq0, zq1, zq2, Act.put, zq3, zq4, zq5]);refine zqt (i := 8) (v := ?v8a8) ?y8a8 ?r8a8
  case y8a8 =>
    intro u hSu;(try dsimp only at hSu);go_simp;(try with_reducible rfl)
  (try simp only [zq0, zq1, zq2, Act.put, zq3, zq4, zq5]);refine zqt (i := 9) (v := ?v9a8) ?y9a8 ?r9a8
  case y9a8 =>
    intro u hSu;(try dsimp only at hSu);go_simp;(try with_reducible rfl)
  (try simp only [zq0, zq1, zq2, Act.put, zq3, zq4, zq5]);refine zqt (i := 10) (v := ?v10a8) ?y10a8 ?r10a8
  case y10a8 =>
    intro u hSu;(try dsimp only at hSu);go_simp;(try with_reducible rfl)
  (try simp only [zq0, zq1, zq2, Act.put, zq3, zq4, zq5]);refine zqt (i := 11) (v := ?v11a8) ?y11a8 ?r11a8
  case y11a8 =>
    intro u hSu;(try dsimp only at hSu);go_simp;(try with_reducible rfl)
  (try simp only [zq0, zq1, zq2, Act.put, zq3, zq4, zq5]);refine zqt (i := 12) (v := ?v12a8) ?y12a8 ?r12a8
  case y12a8 =>
    intro u hSu;(try dsimp only at hSu);go_simp;(try with_reducible rfl)
  (try simp only [zq0, zq1, zq2, Act.put, zq3, zq4, zq5]);refine wpAnyH_done (by kernel_rfl) ?_ _;refine NoPanic.normal ?_;(go_wp2_with fail);go_ret2;exact ⟨_, _, _, rfl, fun hz => (rowN_two _ _ _).le HS.out, below_then HB.out (al_one _ _)⟩
set_option maxRecDepth 100000 in
set_option maxHeartbeats 4000000 in
theorem divided1 (W : World) (p : Addr) (g0 : FuncId) (eg : Ent g0) (hp : W.cell? p = some (.func (.func g0) #[] #[])) (hpl : p.block < W.heap.size) (Q R C : Int → Int → Int → Int)
    (hc : ∀ a b d w, cellR a → cellR b → cellR d → Calls Tryz.prog g0 #[.int .i64 a, .int .i64 b, .int .i64 d] w fun e w' => e = .returned (.tuple #[.int .i64 (Q a b d), .int .i64 (R a b d), .int .i64 (C a b d)]) ∧ Below w.heap.size w w')
    (w : World) (A : Option Addr) (c : Nat) (x : List Int) (b0 : Kp W w) (hx : Takes w 3 A c x) :
    Calls Tryz.prog 209 #[.slice A 3 c, .pointer (some p)] w (CellOut [R (x.getD 0 0) (x.getD 1 0) (x.getD 2 0), Q (x.getD 0 0) (x.getD 1 0) (x.getD 2 0)] (C (x.getD 0 0) (x.getD 1 0) (x.getD 2 0)) w) := by
  obtain ⟨a, b, d, g, o, rfl, rfl, hg, c0, c1, c2, ha, hb, hd⟩ := hx.three;show Calls _ _ _ _ (CellOut [R a b d, Q a b d] (C a b d) w);have HC := Lib.hid fun w => hc a b d w ha hb hd
  clear hx hc;have HP : Hid (w.cell? p = some (.func (.func g0) #[] #[])) := (b0.cell hpl).trans hp;have hpw : p.block < w.heap.size := Nat.lt_of_lt_of_le hpl b0.size;clear hp hpl b0;go_enter Tryz.func209, Tryz.ntmps209;go_upto_region 1 with fail
  refine wp_region_noPanic ?_;refine wp_region_held_drew (S := fun a => Below w.heap.size w a) (by kernel_rfl) ?_ (fun hHeld => ?_)
  · exact (Below.refl _ _).drew
  refine zqt (i := 0) (v := ?v0a9) ?y0a9 ?r0a9
  case y0a9 =>
    intro u hSu;(try dsimp only at hSu);have qp := (hSu.cell (p := p) hpw).trans HP.out;go_simp;(try with_reducible rfl)
  (try simp only [zq0, zq1, zq2, Act.put, zq3, zq4, zq5]);refine zqt (i := 1) (v := ?v1a9) ?y1a9 ?r1a9
  case y1a9 =>
    intro u hSu;(try dsimp only at hSu);go_simp;(try with_reducible rfl)
  (try simp only [zq0, zq1, zq2, Act.put, zq3, zq4, zq5]);refine zqt (i := 2) (v := ?v2a9) ?y2a9 ?r2a9
  case y2a9 =>
    intro u hSu;(try dsimp only at hSu);go_simp;(try with_reducible rfl)
  (try simp only [zq0, zq1, zq2, Act.put, zq3, zq4, zq5]);refine zqt (i := 3) (v := ?v3a9) ?y3a9 ?r3a9
  case y3a9 =>
    intro u hSu;(try dsimp only at hSu);have q0 := (hSu.cell (p := ⟨g, o, none⟩) hg).trans c0;have q1 := (hSu.cell (p := ⟨g, o + 1, none⟩) hg).trans c1;have q2 := (hSu.cell (p := ⟨g, o + 2, none⟩) hg).trans c2;go_simp;(try with_reducible rfl)
  (try simp only [zq0, zq1, zq2, Act.put, zq3, zq4, zq5]);refine zqt (i := 4) (v := ?v4a9) ?y4a9 ?r4a9
  case y4a9 =>
    intro u hSu;(try dsimp only at hSu);go_simp;(try with_reducible rfl)
  (try simp only [zq0, zq1, zq2, Act.put, zq3, zq4, zq5]);refine zqt (i := 5) (v := ?v5a9) ?y5a9 ?r5a9
  case y5a9 =>
    intro u hSu;(try dsimp only at hSu);go_simp;(try with_reducible rfl)
  (try simp only [zq0, zq1, zq2, Act.put, zq3, zq4, zq5]);refine zqt (i := 6) (v := ?v6a9) ?y6a9 ?r6a9
  case y6a9 =>
    intro u hSu;(try dsimp only at hSu);have q0 := (hSu.cell (p := ⟨g, o, none⟩) hg).trans c0;have q1 := (hSu.cell (p := ⟨g, o + 1, none⟩) hg).trans c1;have q2 := (hSu.cell (p := ⟨g, o + 2, none⟩) hg).trans c2;go_simp;(try with_reducible rfl)
  (try simp only [zq0, zq1, zq2, Act.put, zq3, zq4, zq5]);refine zqt (i := 7) (v := ?v7a9) ?y7a9 ?r7a9
  case y7a9 =>
    intro u hSu;(try dsimp only at hSu);go_simp;(try with_reducible rfl)
  (try simp only [zq0, zq1, zq2, Act.put, zq3, zq4, zq5]);refine zqt (i := 8) (v := ?v8a9) ?y8a9 ?r8a9
  case y8a9 =>
    intro u hSu;(try dsimp only at hSu);go_simp;(try with_reducible rfl)
  (try simp only [zq0, zq1, zq2, Act.put, zq3, zq4, zq5]);refine zqt (i := 9) (v := ?v9a9) ?y9a9 ?r9a9
  case y9a9 =>
    intro u hSu;(try dsimp only at hSu);have q0 := (hSu.cell (p := ⟨g, o, none⟩) hg).trans c0;have q1 := (hSu.cell (p := ⟨g, o + 1, none⟩) hg).trans c1;have q2 := (hSu.cell (p := ⟨g, o + 2, none⟩) hg).trans c2;go_simp;(try with_reducible rfl)
  (try simp only [zq0, zq1, zq2, Act.put, zq3, zq4, zq5]);refine wpAnyH_ready (rs := [10]) (by kernel_rfl) (by simp) ?_;refine AllReadyH.cons (o := _) rfl (fun K hK => ?_) AllReadyH.nil;go_simp;refine (HC.out _).mono ?_;rintro e u1 ⟨rfl, bb⟩;have hN := below_then hHeld bb;have HB := Lib.hid hN;have HS := Lib.hid hN.size;(go_wp2_with fail);clear bb;clear hHeld;refine hK.out _ _ hN (fun hHeld => ?_);clear hK K hN;(try simp only [zq0, zq1, zq2, Act.put, zq3, zq4, zq5]);refine zqt (i := 11) (v := ?v11a9) ?y11a9 ?r11a9
  case y11a9 =>
    intro u hSu;(try dsimp only at hSu);go_simp;(try with_reducible rfl)
  (try simp only [zq0, zq1, zq2, Act.put, zq3, zq4, zq5]);refine zqt (i := 12) (v := ?v12a9) ?y12a9 ?r12a9
  case y12a9 =>
    intro u hSu;(try dsimp only at hSu);go_simp;(try with_reducible rfl)
  (try simp only [zq0, zq1, zq2, Act.put, zq3, zq4, zq5]);refine zqt (i := 13) (v := ?v13a9) ?y13a9 ?r13a9
  case y13a9 =>
    intro u hSu;(try dsimp only at hSu);go_simp;(try with_reducible rfl)
  (try simp only [zq0, zq1, zq2, Act.put, zq3, zq4, zq5]);refine wpAnyH_ready (rs := [14]) (by kernel_rfl) (by simp) ?_;refine AllReadyH.cons (o := _) rfl (fun K hK => ?_) AllReadyH.nil;go_simp;refine (restFirst_any _ _ _ _).mono ?_;rintro e u2 ⟨B, m, d9, rfl, hr, bb⟩;have hN := below_then hHeld bb;have HB := Lib.hid hN;have HS := Lib.hid hHeld.size;(go_wp2_with fail);clear bb;clear hHeld;refine hK.out _ _ hN (fun hHeld => ?_);clear hK K hN;(try simp only [zq0, zq1, zq2, Act.put, zq3, zq4, zq5]);refine zqt (i := 15) (v := ?v15a9) ?y15a9 ?r15a9
  case y15a9 =>
    intro u hSu;(try dsimp only at hSu);go_simp;(try with_reducible rfl)
  (try simp only [zq0, zq1, zq2, Act.put, zq3, zq4, zq5]);refine zqt (i := 16) (v := ?v16a9) ?y16a9 ?r16a9
  case y16a9 =>
    intro u hSu;(try dsimp only at hSu);go_simp;(try with_reducible rfl)
  (try simp only [zq0, zq1, zq2, Act.put, zq3, zq4, zq5]);refine zqt (i := 17) (v := ?v17a9) ?y17a9 ?r17a9
  case y17a9 =>
    intro u hSu;(try dsimp only at hSu);go_simp;(try with_reducible rfl)
  (try simp only [zq0, zq1, zq2, Act.put, zq3, zq4, zq5]);refine zqt (i := 18) (v := ?v18a9) ?y18a9 ?r18a9
  case y18a9 =>
    intro u hSu;(try dsimp only at hSu);go_simp;(try with_reducible rfl)
  (try simp only [zq0, zq1, zq2, Act.put, zq3, zq4, zq5]);refine wpAnyH_done (by kernel_rfl) ?_ _;refine NoPanic.normal ?_;(go_wp2_with fail);go_ret2;exact ⟨B, m, d9, rfl, fun hz => (hr hz).le HS.out, HB.out⟩
end Go.Proofs.YtlgnijhemfkflaaGreatDoor

namespace Go.Proofs.YtlgnijhemfkflaaGreatDoor
open Go.RowKit
set_option linter.unusedVariables false
set_option linter.unusedSimpArgs false
set_option maxRecDepth 100000 in
set_option maxHeartbeats 4000000 in
theorem turns1 (W : World) (p : Addr) (g : FuncId) (cs : Array Value) (t : Nat) (f : Fn3) (eg : Ent g)
    (hc : ∀ w k L A c x, Kp W w → Ok k L → IsVm w k L → Takes w t A c x → Calls Tryz.prog g (#[vmV k, .slice A t c] ++ cs) w (TurnOut (f k L x) k w)) (w : World) (k : VmK) (L : VmL) (A : Option Addr) (c : Nat) (x : List Int)
    (b0 : Kp W w) (hp : w.cell? p = some (.func (.func g) #[] cs)) (hpl : p.block < w.heap.size) (ok : Ok k L) (h : IsVm w k L) (hx : Takes w t A c x) :
    Calls Tryz.prog 240 #[vmV k, .slice A t c, .pointer (some p)] w (ActOut ⟨(f k L x).c, [], (f k L x).K, (f k L x).L⟩ k w) := by
  generalize hE : f k L x = E;go_enter Tryz.func240, Tryz.ntmps240;go_upto_region 1 with fail
  generalize hw1 : World.alloc (World.alloc _ _) _ = w1;have kb : Below w.heap.size w w1 := by rw [← hw1]; exact al_two _ _ _
  have kx : VBox w1 w.heap.size k := by rw [← hw1]; exact (in_two w k _).2
  have kz : VBox w1 (w.heap.size + 1) vm0 := by rw [← hw1]; exact in_two0 w _
  have KS : Hid (w1.heap.size = w.heap.size + 1 + 1) := by show _ = _; rw [← hw1]; exact in_twos w _ _
  clear hw1;have hp1 := (kb.cell (p := p) hpl).trans hp;have HC := Lib.hid (hc w1 k L A c x (kp_then b0 kb) ok (h.keep kb) (hx.keep kb));have X1 := Lib.hid kx;have Z1 := Lib.hid kz;have B1 := Lib.hid kb;have V0 := Lib.hid h;clear hc b0 kb kx kz h hx hp ok;rw [hE] at HC;(go_wp2_with (refine wpList_vload (by rfl) _ rfl w.heap.size k rfl X1.out ?_));refine HC.out.mono ?_;rintro e w2 ⟨j, rfl, hr, bb⟩;have X2 := Lib.hid (X1.out.keep bb);have Z2 := Lib.hid (Z1.out.keep bb);have B2 := Lib.hid (below_then B1.out bb);have HR := Lib.hid hr;have S2 := Lib.hid bb.size;clear HC X1 Z1 B1 bb hr;have OV := Lib.hid (vbox_zero w2);have OX := Lib.hid (vrow OV.out j);have Z3 := Lib.hid (vrow_fr (Z2.out.keep (al_one w2 (.cells (vmC vm0) 36))) (by have := Z2.out.lt; omega : w.heap.size + 1 ≠ w2.heap.size) (vmC j));have B3 := Lib.hid (below_setRow (below_then B2.out (al_one w2 (.cells (vmC vm0) 36))) (by have := B2.out.size; omega : w.heap.size ≤ w2.heap.size) (vmC j));have E3 : Hid (Ex (fun g => g = w2.heap.size ∨ g = w.heap.size + 1) w2 ((w2.alloc (.cells (vmC vm0) 36)).setRow w2.heap.size (vmC j))) := ((Ex.refl _ _).below (al_one _ _)).row (.inl rfl) _;(go_wp2_with (first | (refine wpList_vstore (by rfl) _ _ rfl w2.heap.size vm0 j rfl rfl OV.out ?_) | (refine wpList_vload (by rfl) _ rfl w2.heap.size j rfl OX.out ?_) | (refine wpList_vstore (by rfl) _ _ rfl (w.heap.size + 1) vm0 j rfl rfl Z3.out ?_)));have kb2 := below_setRow B3.out (show w.heap.size ≤ w.heap.size + 1 by omega) (vmC j);refine bodyPost_ret (res_ctt rfl _ _ _ _ rfl (vrow Z3.out j)) rfl ⟨j, none, 0, 0, rfl, fun hz => ?_, kb2⟩
  obtain ⟨hj, hs, hl⟩ := HR.out hz;refine ⟨V0.out.ex hj hl (E3.out.row (.inr rfl) (vmC j)) ?_, hs, hl.le (by have := KS.out; omega), rowN_nil _ _⟩;intro g hg h;have := KS.out
  rcases h with h | rfl
  · omega
  · exact ⟨by omega, by omega, vbox_nou8 Z2.out⟩
end Go.Proofs.YtlgnijhemfkflaaGreatDoor

namespace Go.Proofs.YtlgnijhemfkflaaGreatDoor
open Go.RowKit
set_option linter.unusedVariables false
set_option linter.unusedSimpArgs false
set_option maxRecDepth 100000 in
set_option maxHeartbeats 4000000 in
theorem fetches1 (W : World) (p : Addr) (g : FuncId) (cs : Array Value) (o : PM → Int → List Int) (C : PM → Int → Int) (eg : Ent g)
    (hc : ∀ w A P n c K d m a, Kp W w → MemIn w A P n c K d m → cellR a → Calls Tryz.prog g (#[.agg #[.slice A n c, .slice P K d], .int .i64 a] ++ cs) w (CellOut (o m a) (C m a) w)) (w : World) (k : VmK) (L : VmL) (A : Option Addr) (c : Nat) (x : List Int)
    (b0 : Kp W w) (hp : w.cell? p = some (.func (.func g) #[] cs)) (hpl : p.block < w.heap.size) (ok : Ok k L) (h : IsVm w k L) (hx : Takes w 1 A c x) :
    Calls Tryz.prog 222 #[vmV k, .slice A 1 c, .pointer (some p)] w (ActOut ⟨C L.m (x.getD 0 0), o L.m (x.getD 0 0), k, L⟩ k w) := by
  obtain ⟨a, g9, o9, rfl, rfl, hg, c0, ha⟩ := hx.one;show Calls _ _ _ _ (ActOut ⟨C L.m a, o L.m a, k, L⟩ k w);go_enter Tryz.func222, Tryz.ntmps222;go_upto_region 1 with fail
  generalize hw1 : World.alloc (World.alloc _ _) _ = w1;have kb : Below w.heap.size w w1 := by rw [← hw1]; exact al_two _ _ _
  have kx : VBox w1 w.heap.size k := by rw [← hw1]; exact (in_two w k _).2
  have kz : VBox w1 (w.heap.size + 1) vm0 := by rw [← hw1]; exact in_two0 w _
  have KS : Hid (w1.heap.size = w.heap.size + 1 + 1) := by show _ = _; rw [← hw1]; exact in_twos w _ _
  clear hw1;have HP : Hid (w1.cell? p = some (.func (.func g) #[] cs)) := (kb.cell (p := p) hpl).trans hp;have hp1l : p.block < w1.heap.size := by have := KS.out; omega
  have hg1 : g9 < w1.heap.size := by have := KS.out; omega
  have C0 := Lib.hid ((kb.cell (p := ⟨g9, o9, none⟩) hg).trans c0);have HC := Lib.hid fun w b0 hm => hc w k.mA k.pA k.mn k.mc k.pn k.pc L.m a b0 hm ha
  have HM := Lib.hid (MemIn.keep (ok.mem h) kb);have X1 := Lib.hid kx;have Z1 := Lib.hid kz;have B1 := Lib.hid (kp_then b0 kb);have B1w := Lib.hid kb;have V0 := Lib.hid h;clear hc b0 kb kx kz h hx hp c0 ok;go_upto_region 1 with fail
  refine wp_region_noPanic ?_;refine wp_region_held_drew (S := fun a => Below w1.heap.size w1 a) (by kernel_rfl) ?_ (fun hHeld => ?_)
  · exact (Below.refl _ _).drew
  refine zqt (i := 0) (v := ?v0a10) ?y0a10 ?r0a10
  case y0a10 =>
    intro u hSu;(try dsimp only at hSu);have qp := (hSu.cell (p := p) hp1l).trans HP.out;go_simp;(try with_reducible rfl)
  (try simp only [zq0, zq1, zq2, Act.put, zq3, zq4, zq5]);refine zqt (i := 1) (v := ?v1a10) ?y1a10 ?r1a10
  case y1a10 =>
    intro u hSu;(try dsimp only at hSu);go_simp;(try with_reducible rfl)
  (try simp only [zq0, zq1, zq2, Act.put, zq3, zq4, zq5]);refine zqt (i := 2) (v := ?v2a10) ?y2a10 ?r2a10
  case y2a10 =>
    intro u hSu;(try dsimp only at hSu);have hx1 := X1.out.keep hSu;obtain ⟨p0, p1, p2, p3, p4, p5, p6, p7, p8, p9, p10, p11, p12, p13, p14, p15, p16, p17, p18, p19, p20, p21, p22⟩ := hx1.use;clear p0 p1 p2 p3 p4 p7 p8 p9 p10 p11 p12 p13 p14 p15 p16 p17 p18 p19 p20 p21 p22;go_simp;(try with_reducible rfl)
  (try simp only [zq0, zq1, zq2, Act.put, zq3, zq4, zq5]);refine zqt (i := 3) (v := ?v3a10) ?y3a10 ?r3a10
  case y3a10 =>
    intro u hSu;(try dsimp only at hSu);go_simp;(try with_reducible rfl)
  (try simp only [zq0, zq1, zq2, Act.put, zq3, zq4, zq5]);refine zqt (i := 4) (v := ?v4a10) ?y4a10 ?r4a10
  case y4a10 =>
    intro u hSu;(try dsimp only at hSu);go_simp;(try with_reducible rfl)
  (try simp only [zq0, zq1, zq2, Act.put, zq3, zq4, zq5]);refine zqt (i := 5) (v := ?v5a10) ?y5a10 ?r5a10
  case y5a10 =>
    intro u hSu;(try dsimp only at hSu);have q0 := (hSu.cell (p := ⟨g9, o9, none⟩) hg1).trans C0.out;go_simp;(try with_reducible rfl)
  (try simp only [zq0, zq1, zq2, Act.put, zq3, zq4, zq5]);refine wpAnyH_ready (rs := [6]) (by kernel_rfl) (by simp) ?_;refine AllReadyH.cons (o := _) rfl (fun K hK => ?_) AllReadyH.nil;go_simp;refine (HC.out _ (kp_then B1.out hHeld) (HM.out.keep hHeld)).mono ?_;rintro e u1 ⟨B, m, d, rfl, hr, bb⟩;have hN := below_then hHeld bb;have HR := Lib.hid hr;have HB := Lib.hid hN;have HS := Lib.hid hHeld.size;(go_wp2_with fail);clear bb hr;clear hHeld;refine hK.out _ _ hN (fun hHeld => ?_);clear hK K hN;(try simp only [zq0, zq1, zq2, Act.put, zq3, zq4, zq5]);refine zqt (i := 7) (v := ?v7a10) ?y7a10 ?r7a10
  case y7a10 =>
    intro u hSu;(try dsimp only at hSu);go_simp;(try with_reducible rfl)
  (try simp only [zq0, zq1, zq2, Act.put, zq3, zq4, zq5]);refine zqt (i := 8) (v := ?v8a10) ?y8a10 ?r8a10
  case y8a10 =>
    intro u hSu;(try dsimp only at hSu);go_simp;(try with_reducible rfl)
  (try simp only [zq0, zq1, zq2, Act.put, zq3, zq4, zq5]);refine zqt (i := 9) (v := ?v9a10) ?y9a10 ?r9a10
  case y9a10 =>
    intro u hSu;(try dsimp only at hSu);go_simp;(try with_reducible rfl)
  (try simp only [zq0, zq1, zq2, Act.put, zq3, zq4, zq5]);refine zqt (i := 10) (v := ?v10a10) ?y10a10 ?r10a10
  case y10a10 =>
    intro u hSu;(try dsimp only at hSu);go_simp;(try with_reducible rfl)
  (try simp only [zq0, zq1, zq2, Act.put, zq3, zq4, zq5]);refine zqt (i := 11) (v := ?v11a10) ?y11a10 ?r11a10
  case y11a10 =>
    intro u hSu;(try dsimp only at hSu);go_simp;(try with_reducible rfl)
  (try simp only [zq0, zq1, zq2, Act.put, zq3, zq4, zq5]);refine wpAnyH_done (by kernel_rfl) ?_ _;refine NoPanic.normal ?_;have X2 := Lib.hid (X1.out.keep HB.out);have Z2 := Lib.hid (Z1.out.keep HB.out);have B2 := Lib.hid (below_then B1w.out HB.out);have S2 := Lib.hid HB.out.size;(go_wp2_with (first | (refine wpList_vload (by rfl) _ rfl w.heap.size k rfl X2.out ?_) | (refine wpList_vstore (by rfl) _ _ rfl _ vm0 k rfl rfl Z2.out ?_)));have kb2 := below_setRow B2.out (show w.heap.size ≤ w.heap.size + 1 by omega) (vmC k);refine bodyPost_ret (res_ctt rfl _ _ _ _ rfl (vrow Z2.out k)) rfl ⟨k, B, m, d, rfl, fun hz => ⟨V0.out.keep kb2, Sc.refl _, MLoc.refl _ _, ?_⟩, kb2⟩;exact (((HR.out hz).le HS.out).row_set (by have := KS.out; omega) _).le (by have := KS.out; omega)
end Go.Proofs.YtlgnijhemfkflaaGreatDoor

namespace Go.Proofs.YtlgnijhemfkflaaGreatDoor
open Go.RowKit
set_option linter.unusedVariables false
set_option linter.unusedSimpArgs false
set_option maxRecDepth 100000 in
set_option maxHeartbeats 4000000 in
theorem fetchesOne1 (W : World) (p : Addr) (g : FuncId) (cs : Array Value) (o C : PM → Int → Int) (eg : Ent g)
    (hc : ∀ w A P n c K d m a, Kp W w → MemIn w A P n c K d m → cellR a → Calls Tryz.prog g (#[.agg #[.slice A n c, .slice P K d], .int .i64 a] ++ cs) w fun e w' => e = .returned (.tuple #[.int .i64 (o m a), .int .i64 (C m a)]) ∧ Below w.heap.size w w')
    (hp : W.cell? p = some (.func (.func g) #[] cs)) (hpl : p.block < W.heap.size) (w : World) (A P : Option Addr) (n c K d : Nat) (m : PM) (a : Int) (b0 : Kp W w) (hm : MemIn w A P n c K d m) (ha : cellR a) :
    Calls Tryz.prog 215 #[.agg #[.slice A n c, .slice P K d], .int .i64 a, .pointer (some p)] w (CellOut [o m a] (C m a) w) := by
  go_enter Tryz.func215, Tryz.ntmps215;go_upto_region 1 with fail
  generalize hw1 : World.alloc _ _ = w1;have kb : Below w.heap.size w w1 := by rw [← hw1]; exact al_one _ _
  have c0 : w1.cell? ⟨w.heap.size, 0, none⟩ = some (.slice A n c) := by rw [← hw1]; simp
  have c1 : w1.cell? ⟨w.heap.size, 1, none⟩ = some (.slice P K d) := by rw [← hw1]; simp
  have hp1 := ((kp_then b0 kb).cell (p := p) hpl).trans hp;have HC := Lib.hid (hc w1 A P n c K d m a (kp_then b0 kb) (hm.keep kb) ha);have B1 := Lib.hid kb;clear hc b0 kb hm hp hw1;(go_wp2_with fail);refine HC.out.mono ?_;rintro e w2 ⟨rfl, bb⟩;have B2 := Lib.hid (below_then B1.out bb);clear HC bb;(go_wp2_with fail);go_ret2;exact ⟨_, _, _, rfl, fun hz => (rowN_one _ _).le B2.out.size, below_then B2.out (al_one _ _)⟩
set_option maxRecDepth 100000 in
set_option maxHeartbeats 4000000 in
theorem tells1 (W : World) (p : Addr) (g : FuncId) (cs : Array Value) (o : VmK → VmL → Int) (eg : Ent g)
    (hc : ∀ w k L, Kp W w → Ok k L → IsVm w k L → Calls Tryz.prog g (#[vmV k] ++ cs) w fun e w' => e = .returned (.int .i64 (o k L)) ∧ Below w.heap.size w w') (w : World) (k : VmK) (L : VmL) (A : Option Addr) (c : Nat) (x : List Int)
    (b0 : Kp W w) (hp : w.cell? p = some (.func (.func g) #[] cs)) (hpl : p.block < w.heap.size) (ok : Ok k L) (h : IsVm w k L) (hx : Takes w 0 A c x) :
    Calls Tryz.prog 225 #[vmV k, .slice A 0 c, .pointer (some p)] w (ActOut ⟨0, [o k L], k, L⟩ k w) := by
  go_enter Tryz.func225, Tryz.ntmps225;go_upto_region 1 with fail
  generalize hw1 : World.alloc (World.alloc _ _) _ = w1;have kb : Below w.heap.size w w1 := by rw [← hw1]; exact al_two _ _ _
  have kx : VBox w1 w.heap.size k := by rw [← hw1]; exact (in_two w k _).2
  have kz : VBox w1 (w.heap.size + 1) vm0 := by rw [← hw1]; exact in_two0 w _
  have KS : Hid (w1.heap.size = w.heap.size + 1 + 1) := by show _ = _; rw [← hw1]; exact in_twos w _ _
  clear hw1;have HP := Lib.hid hp;have HC := Lib.hid fun w b0 hm => hc w k L b0 ok hm
  have X1 := Lib.hid kx;have Z1 := Lib.hid kz;have B1 := Lib.hid kb;have V0 := Lib.hid h;clear hc kb kx kz h hx hp ok;go_upto_region 1 with fail
  refine wp_region_noPanic ?_;refine wp_region_held_drew (S := fun a => Below w.heap.size w a ∧ VBox a w.heap.size k ∧ ∃ j0, VBox a (w.heap.size + 1) j0) (by kernel_rfl) ?_ (fun hHeld => ?_)
  · exact ⟨B1.out.drew, X1.out, _, Z1.out⟩
  refine zqt (i := 0) (v := vmV k) (fun u hSu => exec_vl _ rfl w.heap.size k rfl hSu.2.1) ?_;(try simp only [zq0, zq1, zq2, Act.put, zq3, zq4, zq5]);refine zqt (i := 1) (v := ?v1a11) ?y1a11 ?r1a11
  case y1a11 =>
    intro u hSu;(try dsimp only at hSu);have qp := (hSu.1.cell (p := p) hpl).trans HP.out;go_simp;(try with_reducible rfl)
  (try simp only [zq0, zq1, zq2, Act.put, zq3, zq4, zq5]);refine zqt (i := 2) (v := vmV k) (fun u hSu => exec_vl _ rfl w.heap.size k rfl hSu.2.1) ?_;(try simp only [zq0, zq1, zq2, Act.put, zq3, zq4, zq5]);refine wpAnyH_ready (rs := [3]) (by kernel_rfl) (by simp) ?_;refine AllReadyH.cons (o := _) rfl (fun K hK => ?_) AllReadyH.nil;go_simp;refine (HC.out _ (kp_then b0 hHeld.1) (V0.out.keep hHeld.1)).mono ?_;rintro e u1 ⟨rfl, bb⟩;obtain ⟨j0, hz⟩ := hHeld.2.2;have HS1 : Hid (w.heap.size + 1 < u1.heap.size) := (hz.keep bb).lt;have hN : Below w.heap.size w u1 ∧ VBox u1 w.heap.size k ∧ ∃ j0, VBox u1 (w.heap.size + 1) j0 := ⟨below_then hHeld.1 bb, hHeld.2.1.keep bb, j0, hz.keep bb⟩;(go_wp2_with fail);clear bb hz;clear hHeld;refine hK.out _ _ hN (fun hHeld => ?_);clear hK K hN;(try simp only [zq0, zq1, zq2, Act.put, zq3, zq4, zq5]);obtain ⟨j0, hz⟩ := hHeld.2.2;refine wpAnyH_ready (rs := [4, 5]) (by kernel_rfl) (by simp) ?_;refine AllReadyH.cons (o := _) rfl (fun K hK => ?_) (AllReadyH.cons (o := _) rfl (fun K hK => ?_) AllReadyH.nil)
  case refine_1 =>
    go_simp;(go_wp2_with fail);have h1 := below_then hHeld.1 (al_one u1 (.cells #[.int .i64 (o k L)] 3));have h2 := hHeld.2.1.keep (al_one u1 (.cells #[.int .i64 (o k L)] 3));have h3 := hz.keep (al_one u1 (.cells #[.int .i64 (o k L)] 3));refine hK.out _ _ ⟨h1, h2, _, h3⟩ (fun hHeld2 => ?_);clear hK K;(try simp only [zq0, zq1, zq2, Act.put, zq3, zq4, zq5]);refine wpAnyH_ready (rs := [5]) (by kernel_rfl) (by simp) ?_;refine AllReadyH.cons (o := _) rfl (fun K hK => ?_) AllReadyH.nil;refine step_vst rfl _ _ rfl (w.heap.size + 1) j0 k rfl rfl h3 ?_;have kb2 := below_setRow h1 (show w.heap.size ≤ w.heap.size + 1 by omega) (vmC k);refine hK.out _ _ ⟨kb2, vrow_fr h2 (by omega) _, k, vrow h3 k⟩ (fun hHeld3 => ?_);clear hK K;(try simp only [zq0, zq1, zq2, Act.put, zq3, zq4, zq5]);refine zqt (i := 6) (v := ?v6A) ?y6A ?r6A
    case y6A =>
      intro u hSu;(try dsimp only at hSu);go_simp;(try with_reducible rfl)
    (try simp only [zq0, zq1, zq2, Act.put, zq3, zq4, zq5]);refine zqt (i := 7) (v := ?v7A) ?y7A ?r7A
    case y7A =>
      intro u hSu;(try dsimp only at hSu);go_simp;(try with_reducible rfl)
    (try simp only [zq0, zq1, zq2, Act.put, zq3, zq4, zq5]);refine wpAnyH_done (by kernel_rfl) ?_ _;refine NoPanic.normal ?_;(go_wp2_with fail);refine bodyPost_ret (res_ctt rfl _ _ _ _ rfl (vrow h3 k)) rfl ⟨k, _, _, _, rfl, fun hz => ⟨V0.out.keep kb2, Sc.refl _, MLoc.refl _ _, ?_⟩, kb2⟩;exact (((rowN_one u1 (o k L)).le (HS1.out : w.heap.size + 1 + 1 ≤ u1.heap.size)).row_set (by omega) _).le (by omega)
  case refine_2 =>
    refine step_vst rfl _ _ rfl (w.heap.size + 1) j0 k rfl rfl hz ?_;have kb1 := below_setRow hHeld.1 (show w.heap.size ≤ w.heap.size + 1 by omega) (vmC k);have h2 := vrow_fr hHeld.2.1 (by omega : w.heap.size ≠ w.heap.size + 1) (vmC k);have h3 := vrow hz k;refine hK.out _ _ ⟨kb1, h2, k, h3⟩ (fun hHeld2 => ?_);clear hK K;(try simp only [zq0, zq1, zq2, Act.put, zq3, zq4, zq5]);generalize hu : World.setRow _ _ _ = u at kb1 h2 h3 hHeld2 ⊢;refine wpAnyH_ready (rs := [4]) (by kernel_rfl) (by simp) ?_;refine AllReadyH.cons (o := _) rfl (fun K hK => ?_) AllReadyH.nil;go_simp;(go_wp2_with fail);have kb2 := below_then kb1 (al_one u (.cells #[.int .i64 (o k L)] 3));have h5 := h3.keep (al_one u (.cells #[.int .i64 (o k L)] 3));refine hK.out _ _ ⟨kb2, h2.keep (al_one _ _), k, h5⟩ (fun hHeld3 => ?_);clear hK K;(try simp only [zq0, zq1, zq2, Act.put, zq3, zq4, zq5]);refine zqt (i := 6) (v := ?v6B) ?y6B ?r6B
    case y6B =>
      intro u hSu;(try dsimp only at hSu);go_simp;(try with_reducible rfl)
    (try simp only [zq0, zq1, zq2, Act.put, zq3, zq4, zq5]);refine zqt (i := 7) (v := ?v7B) ?y7B ?r7B
    case y7B =>
      intro u hSu;(try dsimp only at hSu);go_simp;(try with_reducible rfl)
    (try simp only [zq0, zq1, zq2, Act.put, zq3, zq4, zq5]);refine wpAnyH_done (by kernel_rfl) ?_ _;refine NoPanic.normal ?_;(go_wp2_with fail);refine bodyPost_ret (res_ctt rfl _ _ _ _ rfl h5) rfl ⟨k, _, _, _, rfl, fun hz => ⟨V0.out.keep kb2, Sc.refl _, MLoc.refl _ _, ?_⟩, kb2⟩;exact (rowN_one u (o k L)).le kb1.size
end Go.Proofs.YtlgnijhemfkflaaGreatDoor

namespace Go.Proofs.YtlgnijhemfkflaaGreatDoor
open Go.RowKit
set_option linter.unusedVariables false
set_option linter.unusedSimpArgs false
set_option maxRecDepth 100000 in
set_option maxHeartbeats 4000000 in
theorem stores1 (W : World) (p : Addr) (g : FuncId) (cs : Array Value) (t : Nat) (f : PM → List Int → PM) (C : PM → List Int → Int) (eg : Ent g)
    (hc : ∀ w A P n c K d m B c2 x, Kp W w → MemIn w A P n c K d m → Takes w t B c2 x → Calls Tryz.prog g (#[.agg #[.slice A n c, .slice P K d], .slice B t c2] ++ cs) w (MemOut P K (f m x) (C m x) w)) (w : World) (k : VmK) (L : VmL) (A : Option Addr) (c : Nat) (x : List Int)
    (b0 : Kp W w) (hp : w.cell? p = some (.func (.func g) #[] cs)) (hpl : p.block < w.heap.size) (ok : Ok k L) (h : IsVm w k L) (hx : Takes w t A c x) :
    Calls Tryz.prog 218 #[vmV k, .slice A t c, .pointer (some p)] w (TurnOut (memE k L (f L.m x) (C L.m x)) k w) := by
  show Calls _ _ _ _ (TurnOut ⟨C L.m x, [], k, { L with m := f L.m x }⟩ k w);go_enter Tryz.func218, Tryz.ntmps218;go_upto_region 1 with fail
  generalize hw1 : World.alloc (World.alloc _ _) _ = w1;have kb : Below w.heap.size w w1 := by rw [← hw1]; exact al_two _ _ _
  have kx : VBox w1 w.heap.size k := by rw [← hw1]; exact (in_two w k _).2
  have kz : VBox w1 (w.heap.size + 1) vm0 := by rw [← hw1]; exact in_two0 w _
  have KS : Hid (w1.heap.size = w.heap.size + 1 + 1) := by show _ = _; rw [← hw1]; exact in_twos w _ _
  clear hw1;have hp1 := (kb.cell (p := p) hpl).trans hp;have HC := Lib.hid (hc w1 k.mA k.pA k.mn k.mc k.pn k.pc L.m A c x (kp_then b0 kb) ((ok.mem h).keep kb) (hx.keep kb));have X1 := Lib.hid kx;have Z1 := Lib.hid kz;have B1 := Lib.hid kb;have V0 := Lib.hid h;obtain ⟨p0, p1, p2, p3, p4, p5, p6, p7, p8, p9, p10, p11, p12, p13, p14, p15, p16, p17, p18, p19, p20, p21, p22⟩ := kx.use;clear p0 p1 p2 p3 p4 p7 p8 p9 p10 p11 p12 p13 p14 p15 p16 p17 p18 p19 p20 p21 p22;clear hc b0 kb kx kz h hx hp ok;(go_wp2_with fail);refine HC.out.mono ?_;rintro e w2 ⟨A2, n2, c2, P2, K2, d2, rfl, hr, bb⟩;have X2 := Lib.hid (X1.out.keep bb);have Z2 := Lib.hid (Z1.out.keep bb);have B2 := Lib.hid (below_then B1.out bb);have HR := Lib.hid hr;have F5 := X2.out.free.2.2.2.2.2.1;have F6 := X2.out.free.2.2.2.2.2.2.1;obtain ⟨p0, p1, p2, p3, p4, P5, P6, p7, p8, p9, p10, p11, p12, p13, p14, p15, p16, p17, p18, p19, p20, p21, p22⟩ := X2.out.use;clear p0 p1 p2 p3 p4 p7 p8 p9 p10 p11 p12 p13 p14 p15 p16 p17 p18 p19 p20 p21 p22;clear HC X1 Z1 B1 bb hr p5 p6;go_upto_region 3 with fail
  generalize hV : World.setCell _ _ _ = V;have XW : Hid (VBox V w.heap.size { k with mA := A2, mn := n2, mc := c2, pA := P2, pn := K2, pc := d2 }) := by show VBox _ _ _; rw [← hV]; exact (X2.out.put_m _ _ _).put_p _ _ _
  have ZW : Hid (VBox V (w.heap.size + 1) vm0) := by show VBox _ _ _; rw [← hV]; exact vset_far (vset_far Z2.out (by omega)) (by omega)
  have BW : Hid (Below w.heap.size w V) := by show Below _ _ _; rw [← hV]; exact (B2.out.setCell (Nat.le_refl _) _).setCell (Nat.le_refl _) _
  have EW : Hid (Ex (fun g => g = w.heap.size ∨ g = w.heap.size + 1) w2 V) := by show Ex _ _ _; rw [← hV]; exact ((Ex.refl _ _).cell (.inl rfl) _).cell (.inl rfl) _
  clear hV F5 F6 P5 P6;(go_wp2_with (first | (refine wpList_vload (by rfl) _ rfl _ _ rfl XW.out ?_) | (refine wpList_vstore (by rfl) _ _ rfl _ vm0 _ rfl rfl ZW.out ?_)));have kb2 := below_setRow BW.out (show w.heap.size ≤ w.heap.size + 1 by omega) (vmC { k with mA := A2, mn := n2, mc := c2, pA := P2, pn := K2, pc := d2 });refine bodyPost_ret (res_ct rfl _ _ _ _ rfl (vrow ZW.out _)) rfl ⟨_, rfl, fun hz => ?_, kb2⟩;have hm := HR.out hz;have v2 := V0.out.keep B2.out;have hl : MLoc w1.heap.size { k with mA := A2, mn := n2, mc := c2, pA := P2, pn := K2, pc := d2 } k := ⟨hm.2 _ _ _ _ rfl, .refl _ _ _, .refl _ _ _, ⟨rfl, rfl⟩, ⟨rfl, rfl⟩, ⟨rfl, rfl⟩, ⟨rfl, rfl⟩⟩;have hj : IsVm w2 { k with mA := A2, mn := n2, mc := c2, pA := P2, pn := K2, pc := d2 } { L with m := f L.m x } := ⟨hm.1, v2.d, v2.r, v2.f, v2.dict, v2.o, v2.q, v2.e, v2.h⟩;refine ⟨V0.out.ex hj hl (EW.out.row (.inr rfl) _) ?_, ⟨rfl, rfl, rfl, rfl, rfl, rfl, rfl, rfl, rfl, rfl, rfl, rfl, rfl⟩, hl.le (by have := KS.out; omega)⟩;intro g hg h;have := KS.out
  rcases h with rfl | rfl
  · exact ⟨by omega, by omega, vbox_nou8 X2.out⟩
  · exact ⟨by omega, by omega, vbox_nou8 Z2.out⟩
end Go.Proofs.YtlgnijhemfkflaaGreatDoor
