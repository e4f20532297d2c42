/- Part 27. -/
import Derived.Test.YtlgnijhemfkflaaGreatDoorPaAZ
set_option linter.unusedVariables false
set_option linter.unusedSimpArgs false
set_option maxRecDepth 100000
set_option maxHeartbeats 4000000

namespace Go.Proofs.YtlgnijhemfkflaaGreatDoor
open Go.RowKit


theorem reckonedOfTwo1 (W : World) (p : Addr) (s : ByteArray) (hp : W.cell? p = some (.string s)) (hpl : p.block < W.heap.size) (w : World) (A : Option Addr) (c : Nat) (x : List Int) (b0 : Kp W w) (hx : Takes w 2 A c x) :
    Calls Tryz.prog 79 #[.slice A 2 c,.pointer (some p)] w (CellOut [(twoF s.data.toList (x.getD 0 0) (x.getD 1 0)).getD 0] (divC s.data.toList (x.getD 1 0)) w):=by
  obtain ⟨a,b,g,o,rfl,rfl,hg,c0,c1,ha,hb⟩:=hx.two;show Calls _ _ _ _ (CellOut [(twoF s.data.toList a b).getD 0] (divC s.data.toList b) w);clear hx;have HP : Hid (w.cell? p = some (.string s)):=(b0.cell hpl).trans hp;have hpw : p.block < w.heap.size:=Nat.lt_of_lt_of_le hpl b0.size;clear hp hpl b0;go_enter Tryz.func79,Tryz.ntmps79;go_upto_region 1 with fail
  refine wp_region_noPanic ?_;refine wp_region_held_drew (S:=fun a => Below w.heap.size w a) (by kernel_rfl) ?_ (fun hHeld => ?_)
  · exact (Below.refl _ _).drew
  refine zqt (i:=0) (v:=?v0a3) ?y0a3 ?r0a3
  case y0a3 =>
    intro u hSu;(try dsimp only at hSu);have qp:=(hSu.cell (p:=p) hpw).trans HP.out;go_simp;(try with_reducible rfl)
  (try simp only [zq,Act.put]);refine zqt (i:=1) (v:=?v1a3) ?y1a3 ?r1a3
  case y1a3 =>
    intro u hSu;go_simp;(try with_reducible rfl)
  (try simp only [zq,Act.put]);refine zqt (i:=2) (v:=?v2a3) ?y2a3 ?r2a3
  case y2a3 =>
    intro u hSu;go_simp;(try with_reducible rfl)
  (try simp only [zq,Act.put]);refine zqt (i:=3) (v:=?v3a3) ?y3a3 ?r3a3
  case y3a3 =>
    intro u hSu;(try dsimp only at hSu);have q0:=(hSu.cell (p:=⟨g,o,none⟩) hg).trans c0;have q1:=(hSu.cell (p:=⟨g,o + 1,none⟩) hg).trans c1;go_simp;(try with_reducible rfl)
  (try simp only [zq,Act.put]);refine zqt (i:=4) (v:=?v4a3) ?y4a3 ?r4a3
  case y4a3 =>
    intro u hSu;go_simp;(try with_reducible rfl)
  (try simp only [zq,Act.put]);refine zqt (i:=5) (v:=?v5a3) ?y5a3 ?r5a3
  case y5a3 =>
    intro u hSu;go_simp;(try with_reducible rfl)
  (try simp only [zq,Act.put]);refine zqt (i:=6) (v:=?v6a3) ?y6a3 ?r6a3
  case y6a3 =>
    intro u hSu;(try dsimp only at hSu);have q0:=(hSu.cell (p:=⟨g,o,none⟩) hg).trans c0;have q1:=(hSu.cell (p:=⟨g,o + 1,none⟩) hg).trans c1;go_simp;(try with_reducible rfl)
  (try simp only [zq,Act.put]);refine zqr 7 fun K hK => ?_
  go_simp;refine (two_any s a b _ ha hb).mono ?_;rintro e u1 ⟨rfl,bb⟩;have hN:=below_then hHeld bb;have HB:=zqh hN;have HS:=zqh hN.size;(go_wp2_with fail);clear bb;clear hHeld;refine hK.out _ _ hN (fun hHeld => ?_);clear hK K hN;(try simp only [zq,Act.put]);refine zqt (i:=8) (v:=?v8a3) ?y8a3 ?r8a3
  case y8a3 =>
    intro u hSu;go_simp;(try with_reducible rfl)
  (try simp only [zq,Act.put]);refine zqt (i:=9) (v:=?v9a3) ?y9a3 ?r9a3
  case y9a3 =>
    intro u hSu;go_simp;(try with_reducible rfl)
  (try simp only [zq,Act.put]);refine zqt (i:=10) (v:=?v10a3) ?y10a3 ?r10a3
  case y10a3 =>
    intro u hSu;go_simp;(try with_reducible rfl)
  (try simp only [zq,Act.put]);refine zqt (i:=11) (v:=?v11a3) ?y11a3 ?r11a3
  case y11a3 =>
    intro u hSu;go_simp;(try with_reducible rfl)
  (try simp only [zq,Act.put]);refine zqt (i:=12) (v:=?v12a3) ?y12a3 ?r12a3
  case y12a3 =>
    intro u hSu;go_simp;(try with_reducible rfl)
  (try simp only [zq,Act.put]);refine zqt (i:=13) (v:=?v13a3) ?y13a3 ?r13a3
  case y13a3 =>
    intro u hSu;go_simp;(try with_reducible rfl)
  (try simp only [zq,Act.put]);refine zqt (i:=14) (v:=?v14a3) ?y14a3 ?r14a3
  case y14a3 =>
    intro u hSu;go_simp;(try with_reducible rfl)
  (try simp only [zq,Act.put]);refine wpAnyH_done (by kernel_rfl) ?_ _;refine NoPanic.normal ?_;(go_wp2_with fail);go_ret2;exact ⟨_,_,_,rfl,fun hz => (rowN_one _ _).le HS.out,below_then HB.out (al_one _ _)⟩
theorem reckonedOfOne1 (W : World) (p : Addr) (s : ByteArray) (hp : W.cell? p = some (.string s)) (hpl : p.block < W.heap.size) (w : World) (A : Option Addr) (c : Nat) (x : List Int) (b0 : Kp W w) (hx : Takes w 1 A c x) :
    Calls Tryz.prog 81 #[.slice A 1 c,.pointer (some p)] w (CellOut [(oneF s.data.toList (x.getD 0 0)).getD 0] 0 w):=by
  obtain ⟨a,g,o,rfl,rfl,hg,c0,ha⟩:=hx.one;show Calls _ _ _ _ (CellOut [(oneF s.data.toList a).getD 0] 0 w);clear hx;have HP : Hid (w.cell? p = some (.string s)):=(b0.cell hpl).trans hp;have hpw : p.block < w.heap.size:=Nat.lt_of_lt_of_le hpl b0.size;clear hp hpl b0;go_enter Tryz.func81,Tryz.ntmps81;go_upto_region 1 with fail
  refine wp_region_noPanic ?_;refine wp_region_held_drew (S:=fun a => Below w.heap.size w a) (by kernel_rfl) ?_ (fun hHeld => ?_)
  · exact (Below.refl _ _).drew
  refine zqt (i:=0) (v:=?v0a4) ?y0a4 ?r0a4
  case y0a4 =>
    intro u hSu;(try dsimp only at hSu);have qp:=(hSu.cell (p:=p) hpw).trans HP.out;go_simp;(try with_reducible rfl)
  (try simp only [zq,Act.put]);refine zqt (i:=1) (v:=?v1a4) ?y1a4 ?r1a4
  case y1a4 =>
    intro u hSu;go_simp;(try with_reducible rfl)
  (try simp only [zq,Act.put]);refine zqt (i:=2) (v:=?v2a4) ?y2a4 ?r2a4
  case y2a4 =>
    intro u hSu;go_simp;(try with_reducible rfl)
  (try simp only [zq,Act.put]);refine zqt (i:=3) (v:=?v3a4) ?y3a4 ?r3a4
  case y3a4 =>
    intro u hSu;(try dsimp only at hSu);have q0:=(hSu.cell (p:=⟨g,o,none⟩) hg).trans c0;go_simp;(try with_reducible rfl)
  (try simp only [zq,Act.put]);refine zqr 4 fun K hK => ?_
  go_simp;refine (one_any s a _ ha).mono ?_;rintro e u1 ⟨rfl,bb⟩;have hN:=below_then hHeld bb;have HB:=zqh hN;have HS:=zqh hN.size;(go_wp2_with fail);clear bb;clear hHeld;refine hK.out _ _ hN (fun hHeld => ?_);clear hK K hN;(try simp only [zq,Act.put]);refine zqt (i:=5) (v:=?v5a4) ?y5a4 ?r5a4
  case y5a4 =>
    intro u hSu;go_simp;(try with_reducible rfl)
  (try simp only [zq,Act.put]);refine zqt (i:=6) (v:=?v6a4) ?y6a4 ?r6a4
  case y6a4 =>
    intro u hSu;go_simp;(try with_reducible rfl)
  (try simp only [zq,Act.put]);refine zqt (i:=7) (v:=?v7a4) ?y7a4 ?r7a4
  case y7a4 =>
    intro u hSu;go_simp;(try with_reducible rfl)
  (try simp only [zq,Act.put]);refine zqt (i:=8) (v:=?v8a4) ?y8a4 ?r8a4
  case y8a4 =>
    intro u hSu;go_simp;(try with_reducible rfl)
  (try simp only [zq,Act.put]);refine zqt (i:=9) (v:=?v9a4) ?y9a4 ?r9a4
  case y9a4 =>
    intro u hSu;go_simp;(try with_reducible rfl)
  (try simp only [zq,Act.put]);refine wpAnyH_done (by kernel_rfl) ?_ _;refine NoPanic.normal ?_;(go_wp2_with fail);go_ret2;exact ⟨_,_,_,rfl,fun hz => (rowN_one _ _).le HS.out,below_then HB.out (al_one _ _)⟩
theorem smHi_cel (a b : Int) (ha : cellR a) (hb : cellR b) : cellR (smHi a b):=by
  have:=prod_bd a b ha hb;unfold cellR smHi; omega
theorem scaled_any (w : World) (A : Option Addr) (c : Nat) (x : List Int) (hx : Takes w 3 A c x) : Calls Tryz.prog 87 #[.slice A 3 c] w fun e w' => e = .returned (.tuple #[.int .i64 (fq (umLo (x.getD 0 0) (x.getD 1 0)) (smHi (x.getD 0 0) (x.getD 1 0)) (x.getD 2 0)),.int .i64 (fr (umLo (x.getD 0 0) (x.getD 1 0)) (smHi (x.getD 0 0) (x.getD 1 0)) (x.getD 2 0)),.int .i64 (fc (umLo (x.getD 0 0) (x.getD 1 0)) (smHi (x.getD 0 0) (x.getD 1 0)) (x.getD 2 0))]) ∧ Below w.heap.size w w':=by
  obtain ⟨a,b,d,g,o,rfl,rfl,hg,c0,c1,c2,ha,hb,hd⟩:=hx.three;show Calls _ _ _ _ (fun e w' => e = .returned (.tuple #[.int .i64 (fq (umLo a b) (smHi a b) d),.int .i64 (fr (umLo a b) (smHi a b) d),.int .i64 (fc (umLo a b) (smHi a b) d)]) ∧ Below w.heap.size w w');clear hx;have hh:=smHi_cel a b ha hb;go_enter Tryz.func87,Tryz.ntmps87;go_upto_region 1 with fail
  refine wp_region_noPanic ?_;refine wp_region_held_drew (S:=fun a => Below w.heap.size w a) (by kernel_rfl) ?_ (fun hHeld => ?_)
  · exact (Below.refl _ _).drew
  refine zqt (i:=0) (v:=?v0a5) ?y0a5 ?r0a5
  case y0a5 =>
    intro u hSu;go_simp;(try with_reducible rfl)
  (try simp only [zq,Act.put]);refine zqt (i:=1) (v:=?v1a5) ?y1a5 ?r1a5
  case y1a5 =>
    intro u hSu;go_simp;(try with_reducible rfl)
  (try simp only [zq,Act.put]);refine zqt (i:=2) (v:=?v2a5) ?y2a5 ?r2a5
  case y2a5 =>
    intro u hSu;(try dsimp only at hSu);have q0:=(hSu.cell (p:=⟨g,o,none⟩) hg).trans c0;have q1:=(hSu.cell (p:=⟨g,o + 1,none⟩) hg).trans c1;go_simp;(try with_reducible rfl)
  (try simp only [zq,Act.put]);refine zqt (i:=3) (v:=?v3a5) ?y3a5 ?r3a5
  case y3a5 =>
    intro u hSu;go_simp;(try with_reducible rfl)
  (try simp only [zq,Act.put]);refine zqt (i:=4) (v:=?v4a5) ?y4a5 ?r4a5
  case y4a5 =>
    intro u hSu;go_simp;(try with_reducible rfl)
  (try simp only [zq,Act.put]);refine zqt (i:=5) (v:=?v5a5) ?y5a5 ?r5a5
  case y5a5 =>
    intro u hSu;(try dsimp only at hSu);have q0:=(hSu.cell (p:=⟨g,o,none⟩) hg).trans c0;have q1:=(hSu.cell (p:=⟨g,o + 1,none⟩) hg).trans c1;go_simp;(try with_reducible rfl)
  (try simp only [zq,Act.put]);refine zqr 6 fun K hK => ?_
  go_simp;refine (mul_any a b _ ha hb).mono ?_;rintro e u1 ⟨rfl,rfl⟩;have hN:=hHeld;have HB:=zqh hN;have HS:=zqh hN.size;(go_wp2_with fail);clear hHeld;refine hK.out _ _ hN (fun hHeld => ?_);clear hK K hN;(try simp only [zq,Act.put]);refine zqt (i:=7) (v:=?v7a5) ?y7a5 ?r7a5
  case y7a5 =>
    intro u hSu;go_simp;(try with_reducible rfl)
  (try simp only [zq,Act.put]);refine zqt (i:=8) (v:=?v8a5) ?y8a5 ?r8a5
  case y8a5 =>
    intro u hSu;go_simp;(try with_reducible rfl)
  (try simp only [zq,Act.put]);refine zqt (i:=9) (v:=?v9a5) ?y9a5 ?r9a5
  case y9a5 =>
    intro u hSu;go_simp;(try with_reducible rfl)
  (try simp only [zq,Act.put]);refine zqt (i:=10) (v:=?v10a5) ?y10a5 ?r10a5
  case y10a5 =>
    intro u hSu;go_simp;(try with_reducible rfl)
  (try simp only [zq,Act.put]);refine zqt (i:=11) (v:=?v11a5) ?y11a5 ?r11a5
  case y11a5 =>
    intro u hSu;go_simp;(try with_reducible rfl)
  (try simp only [zq,Act.put]);refine wpAnyH_done (by kernel_rfl) ?_ _;refine NoPanic.normal ?_;have q2:=(HB.out.cell (p:=⟨g,o + 2,none⟩) hg).trans c2;have HC:=zqh fun w => fdiv_any (umLo a b) (smHi a b) d w hh hd
  (go_wp2_with fail);refine (HC.out _).mono ?_;rintro e u2 ⟨rfl,bb⟩;have B2:=zqh (below_then HB.out bb);clear HC bb;(go_wp2_with fail)
  go_ret3
  exact ⟨rfl,B2.out⟩
theorem wide2 (w : World) (A : Option Addr) (c : Nat) (x : List Int) (hx : Takes w 3 A c x) : Calls Tryz.prog 86 #[.slice A 3 c] w (CellOut [(fq (umLo (x.getD 0 0) (x.getD 1 0)) (smHi (x.getD 0 0) (x.getD 1 0)) (x.getD 2 0))] (fc (umLo (x.getD 0 0) (x.getD 1 0)) (smHi (x.getD 0 0) (x.getD 1 0)) (x.getD 2 0)) w):=by
  have HC:=zqh (scaled_any w A c x hx);generalize (fq (umLo (x.getD 0 0) (x.getD 1 0)) (smHi (x.getD 0 0) (x.getD 1 0)) (x.getD 2 0)) = q at HC ⊢;generalize (fr (umLo (x.getD 0 0) (x.getD 1 0)) (smHi (x.getD 0 0) (x.getD 1 0)) (x.getD 2 0)) = r at HC ⊢;generalize (fc (umLo (x.getD 0 0) (x.getD 1 0)) (smHi (x.getD 0 0) (x.getD 1 0)) (x.getD 2 0)) = C at HC ⊢;clear hx;go_enter Tryz.func86,Tryz.ntmps86;(go_wp2_with fail);refine HC.out.mono ?_;rintro e u ⟨rfl,bb⟩;have B2:=zqh bb;clear HC bb;(go_wp2_with fail);go_ret2;exact ⟨_,_,_,rfl,fun hz => (rowN_one _ _).le B2.out.size,below_then B2.out (al_one _ _)⟩
theorem wide3 (w : World) (A : Option Addr) (c : Nat) (x : List Int) (hx : Takes w 3 A c x) : Calls Tryz.prog 88 #[.slice A 3 c] w (CellOut [(fr (umLo (x.getD 0 0) (x.getD 1 0)) (smHi (x.getD 0 0) (x.getD 1 0)) (x.getD 2 0)),(fq (umLo (x.getD 0 0) (x.getD 1 0)) (smHi (x.getD 0 0) (x.getD 1 0)) (x.getD 2 0))] (fc (umLo (x.getD 0 0) (x.getD 1 0)) (smHi (x.getD 0 0) (x.getD 1 0)) (x.getD 2 0)) w):=by
  have HC:=zqh (scaled_any w A c x hx);generalize (fq (umLo (x.getD 0 0) (x.getD 1 0)) (smHi (x.getD 0 0) (x.getD 1 0)) (x.getD 2 0)) = q at HC ⊢;generalize (fr (umLo (x.getD 0 0) (x.getD 1 0)) (smHi (x.getD 0 0) (x.getD 1 0)) (x.getD 2 0)) = r at HC ⊢;generalize (fc (umLo (x.getD 0 0) (x.getD 1 0)) (smHi (x.getD 0 0) (x.getD 1 0)) (x.getD 2 0)) = C at HC ⊢;clear hx;go_enter Tryz.func88,Tryz.ntmps88;(go_wp2_with fail);refine HC.out.mono ?_;rintro e u ⟨rfl,bb⟩;have B2:=zqh bb;clear HC bb;(go_wp2_with fail);refine (restFirst_any _ _ _ _).mono ?_;rintro e u2 ⟨B,m,d,rfl,hr,bb⟩;have B3:=zqh (below_then B2.out bb);have HR:=zqh hr;clear bb hr;(go_wp2_with fail);go_ret2;exact ⟨B,m,d,rfl,fun hz => (HR.out hz).le B2.out.size,B3.out⟩
theorem truth_any (b : Bool) (w : World) : Calls Tryz.prog 97 #[.bool b] w fun e w' => e = .returned (.int .i64 (truthN b)) ∧ w = w':=by
  go_enter Tryz.func97,Tryz.ntmps97;cases b
  · go_wp2
    go_ret;exact ⟨rfl,rfl⟩
  · go_wp2
    go_ret;exact ⟨rfl,rfl⟩
theorem wide4 (w : World) (A : Option Addr) (c : Nat) (x : List Int) (hx : Takes w 1 A c x) : Calls Tryz.prog 96 #[.slice A 1 c] w (CellOut [x.getD 0 0,truthN (decide (x.getD 0 0 < 0))] 0 w):=by
  obtain ⟨a,g,o,rfl,rfl,hg,c0,ha⟩:=hx.one;show Calls _ _ _ _ (CellOut [a,truthN (decide (a < 0))] 0 w);clear hx;go_enter Tryz.func96,Tryz.ntmps96;go_upto_region 1 with fail
  refine wp_region_noPanic ?_;refine wp_region_held_drew (S:=fun a => Below w.heap.size w a) (by kernel_rfl) ?_ (fun hHeld => ?_)
  · exact (Below.refl _ _).drew
  refine zqt (i:=0) (v:=?v0a6) ?y0a6 ?r0a6
  case y0a6 =>
    intro u hSu;go_simp;(try with_reducible rfl)
  (try simp only [zq,Act.put]);refine zqt (i:=1) (v:=?v1a6) ?y1a6 ?r1a6
  case y1a6 =>
    intro u hSu;go_simp;(try with_reducible rfl)
  (try simp only [zq,Act.put]);refine zqt (i:=2) (v:=?v2a6) ?y2a6 ?r2a6
  case y2a6 =>
    intro u hSu;(try dsimp only at hSu);have q0:=(hSu.cell (p:=⟨g,o,none⟩) hg).trans c0;go_simp;(try with_reducible rfl)
  (try simp only [zq,Act.put]);refine zqt (i:=3) (v:=?v3a6) ?y3a6 ?r3a6
  case y3a6 =>
    intro u hSu;go_simp;(try with_reducible rfl)
  (try simp only [zq,Act.put]);refine zqt (i:=4) (v:=?v4a6) ?y4a6 ?r4a6
  case y4a6 =>
    intro u hSu;go_simp;(try with_reducible rfl)
  (try simp only [zq,Act.put]);refine zqt (i:=5) (v:=?v5a6) ?y5a6 ?r5a6
  case y5a6 =>
    intro u hSu;(try dsimp only at hSu);have q0:=(hSu.cell (p:=⟨g,o,none⟩) hg).trans c0;go_simp;(try with_reducible rfl)
  (try simp only [zq,Act.put]);refine zqt (i:=6) (v:=?v6a6) ?y6a6 ?r6a6
  case y6a6 =>
    intro u hSu;go_simp;(try with_reducible rfl)
  (try simp only [zq,Act.put]);refine zqr 7 fun K hK => ?_
  go_simp;refine (truth_any _ _).mono ?_;rintro e u1 ⟨rfl,rfl⟩;have hN:=hHeld;have HB:=zqh hN;have HS:=zqh hN.size;(go_wp2_with fail);clear hHeld;refine hK.out _ _ hN (fun hHeld => ?_);clear hK K hN;(try simp only [zq,Act.put]);refine zqr 8 fun K hK => ?_
  go_simp;(go_wp2_with fail);have HS:=zqh hHeld.size;refine hK.out _ _ (below_then hHeld (al_one _ _)) (fun hHeld => ?_);have HB:=zqh hHeld;clear hK K;(try simp only [zq,Act.put]);refine zqt (i:=9) (v:=?v9a6) ?y9a6 ?r9a6
  case y9a6 =>
    intro u hSu;go_simp;(try with_reducible rfl)
  (try simp only [zq,Act.put]);refine zqt (i:=10) (v:=?v10a6) ?y10a6 ?r10a6
  case y10a6 =>
    intro u hSu;go_simp;(try with_reducible rfl)
  (try simp only [zq,Act.put]);refine wpAnyH_done (by kernel_rfl) ?_ _;refine NoPanic.normal ?_;(go_wp2_with fail);go_ret2;exact ⟨_,_,_,rfl,fun hz => (rowN_two _ _ _).le HS.out,HB.out⟩
theorem wide5 (w : World) (A : Option Addr) (c : Nat) (x : List Int) (hx : Takes w 3 A c x) : Calls Tryz.prog 98 #[.slice A 3 c] w (CellOut [truthN (withinB (x.getD 0 0) (x.getD 1 0) (x.getD 2 0))] 0 w):=by
  obtain ⟨a,b,d,g,o,rfl,rfl,hg,c0,c1,c2,ha,hb,hd⟩:=hx.three;show Calls _ _ _ _ (CellOut [truthN (withinB a b d)] 0 w);clear hx;go_enter Tryz.func98,Tryz.ntmps98;go_upto_region 1 with fail
  refine wp_region_noPanic ?_;refine wp_region_held_drew (S:=fun a => Below w.heap.size w a) (by kernel_rfl) ?_ (fun hHeld => ?_)
  · exact (Below.refl _ _).drew
  refine zqt (i:=0) (v:=?v0a7) ?y0a7 ?r0a7
  case y0a7 =>
    intro u hSu;go_simp;(try with_reducible rfl)
  (try simp only [zq,Act.put]);refine zqt (i:=1) (v:=?v1a7) ?y1a7 ?r1a7
  case y1a7 =>
    intro u hSu;go_simp;(try with_reducible rfl)
  (try simp only [zq,Act.put]);refine zqt (i:=2) (v:=?v2a7) ?y2a7 ?r2a7
  case y2a7 =>
    intro u hSu;(try dsimp only at hSu);have q0:=(hSu.cell (p:=⟨g,o,none⟩) hg).trans c0;have q1:=(hSu.cell (p:=⟨g,o + 1,none⟩) hg).trans c1;have q2:=(hSu.cell (p:=⟨g,o + 2,none⟩) hg).trans c2;go_simp;(try with_reducible rfl)
  (try simp only [zq,Act.put]);refine zqt (i:=3) (v:=?v3a7) ?y3a7 ?r3a7
  case y3a7 =>
    intro u hSu;go_simp;(try with_reducible rfl)
  (try simp only [zq,Act.put]);refine zqt (i:=4) (v:=?v4a7) ?y4a7 ?r4a7
  case y4a7 =>
    intro u hSu;go_simp;(try with_reducible rfl)
  (try simp only [zq,Act.put]);refine zqt (i:=5) (v:=?v5a7) ?y5a7 ?r5a7
  case y5a7 =>
    intro u hSu;(try dsimp only at hSu);have q0:=(hSu.cell (p:=⟨g,o,none⟩) hg).trans c0;have q1:=(hSu.cell (p:=⟨g,o + 1,none⟩) hg).trans c1;have q2:=(hSu.cell (p:=⟨g,o + 2,none⟩) hg).trans c2;go_simp;(try with_reducible rfl)
  (try simp only [zq,Act.put]);refine zqt (i:=6) (v:=?v6a7) ?y6a7 ?r6a7
  case y6a7 =>
    intro u hSu;go_simp;(try with_reducible rfl)
  (try simp only [zq,Act.put]);refine zqt (i:=7) (v:=?v7a7) ?y7a7 ?r7a7
  case y7a7 =>
    intro u hSu;go_simp;(try with_reducible rfl)
  (try simp only [zq,Act.put]);refine zqt (i:=8) (v:=?v8a7) ?y8a7 ?r8a7
  case y8a7 =>
    intro u hSu;(try dsimp only at hSu);have q0:=(hSu.cell (p:=⟨g,o,none⟩) hg).trans c0;have q1:=(hSu.cell (p:=⟨g,o + 1,none⟩) hg).trans c1;have q2:=(hSu.cell (p:=⟨g,o + 2,none⟩) hg).trans c2;go_simp;(try with_reducible rfl)
  (try simp only [zq,Act.put]);refine zqr 9 fun K hK => ?_
  go_simp;refine (within_any _ _ _ _).mono ?_;rintro e u1 ⟨rfl,rfl⟩;have hN:=hHeld;have HB:=zqh hN;have HS:=zqh hN.size;(go_wp2_with fail);clear hHeld;refine hK.out _ _ hN (fun hHeld => ?_);clear hK K hN;(try simp only [zq,Act.put]);refine zqr 10 fun K hK => ?_
  go_simp;refine (truth_any _ _).mono ?_;rintro e u1 ⟨rfl,rfl⟩;have hN:=hHeld;have HB:=zqh hN;have HS:=zqh hN.size;(go_wp2_with fail);clear hHeld;refine hK.out _ _ hN (fun hHeld => ?_);clear hK K hN;(try simp only [zq,Act.put]);refine zqr 11 fun K hK => ?_
  go_simp;(go_wp2_with fail);have HS:=zqh hHeld.size;refine hK.out _ _ (below_then hHeld (al_one _ _)) (fun hHeld => ?_);have HB:=zqh hHeld;clear hK K;(try simp only [zq,Act.put]);refine zqt (i:=12) (v:=?v12a7) ?y12a7 ?r12a7
  case y12a7 =>
    intro u hSu;go_simp;(try with_reducible rfl)
  (try simp only [zq,Act.put]);refine zqt (i:=13) (v:=?v13a7) ?y13a7 ?r13a7
  case y13a7 =>
    intro u hSu;go_simp;(try with_reducible rfl)
  (try simp only [zq,Act.put]);refine wpAnyH_done (by kernel_rfl) ?_ _;refine NoPanic.normal ?_;(go_wp2_with fail);go_ret2;exact ⟨_,_,_,rfl,fun hz => (rowN_one _ _).le HS.out,HB.out⟩
end Go.Proofs.YtlgnijhemfkflaaGreatDoor

namespace Go.Proofs.YtlgnijhemfkflaaGreatDoor
open Go.RowKit


theorem multiplied1 (W : World) (p : Addr) (g0 : FuncId) (eg : Ent g0) (hp : W.cell? p = some (.func (.func g0) #[] #[])) (hpl : p.block < W.heap.size) (X Y : Int → Int → Int)
    (hc : ∀ a b w,cellR a → cellR b → Calls Tryz.prog g0 #[.int .i64 a,.int .i64 b] w fun e w' => e = .returned (.tuple #[.int .i64 (X a b),.int .i64 (Y a b)]) ∧ Below w.heap.size w w')
    (w : World) (A : Option Addr) (c : Nat) (x : List Int) (b0 : Kp W w) (hx : Takes w 2 A c x) :
    Calls Tryz.prog 207 #[.slice A 2 c,.pointer (some p)] w (CellOut [X (x.getD 0 0) (x.getD 1 0),Y (x.getD 0 0) (x.getD 1 0)] 0 w):=by
  obtain ⟨a,b,g,o,rfl,rfl,hg,c0,c1,ha,hb⟩:=hx.two;show Calls _ _ _ _ (CellOut [X a b,Y a b] 0 w);have HC:=zqh fun w => hc a b w ha hb
  clear hx hc;have HP : Hid (w.cell? p = some (.func (.func g0) #[] #[])):=(b0.cell hpl).trans hp;have hpw : p.block < w.heap.size:=Nat.lt_of_lt_of_le hpl b0.size;clear hp hpl b0;go_enter Tryz.func207,Tryz.ntmps207;go_upto_region 1 with fail
  refine wp_region_noPanic ?_;refine wp_region_held_drew (S:=fun a => Below w.heap.size w a) (by kernel_rfl) ?_ (fun hHeld => ?_)
  · exact (Below.refl _ _).drew
  refine zqt (i:=0) (v:=?v0a8) ?y0a8 ?r0a8
  case y0a8 =>
    intro u hSu;(try dsimp only at hSu);have qp:=(hSu.cell (p:=p) hpw).trans HP.out;go_simp;(try with_reducible rfl)
  (try simp only [zq,Act.put]);refine zqt (i:=1) (v:=?v1a8) ?y1a8 ?r1a8
  case y1a8 =>
    intro u hSu;go_simp;(try with_reducible rfl)
  (try simp only [zq,Act.put]);refine zqt (i:=2) (v:=?v2a8) ?y2a8 ?r2a8
  case y2a8 =>
    intro u hSu;go_simp;(try with_reducible rfl)
  (try simp only [zq,Act.put]);refine zqt (i:=3) (v:=?v3a8) ?y3a8 ?r3a8
  case y3a8 =>
    intro u hSu;(try dsimp only at hSu);have q0:=(hSu.cell (p:=⟨g,o,none⟩) hg).trans c0;have q1:=(hSu.cell (p:=⟨g,o + 1,none⟩) hg).trans c1;go_simp;(try with_reducible rfl)
  (try simp only [zq,Act.put]);refine zqt (i:=4) (v:=?v4a8) ?y4a8 ?r4a8
  case y4a8 =>
    intro u hSu;go_simp;(try with_reducible rfl)
  (try simp only [zq,Act.put]);refine zqt (i:=5) (v:=?v5a8) ?y5a8 ?r5a8
  case y5a8 =>
    intro u hSu;go_simp;(try with_reducible rfl)
  (try simp only [zq,Act.put]);refine zqt (i:=6) (v:=?v6a8) ?y6a8 ?r6a8
  case y6a8 =>
    intro u hSu;(try dsimp only at hSu);have q0:=(hSu.cell (p:=⟨g,o,none⟩) hg).trans c0;have q1:=(hSu.cell (p:=⟨g,o + 1,none⟩) hg).trans c1;go_simp;(try with_reducible rfl)
  (try simp only [zq,Act.put]);refine zqr 7 fun K hK => ?_
  go_simp;refine (HC.out _).mono ?_;rintro e u1 ⟨rfl,bb⟩;have hN:=below_then hHeld bb;have HB:=zqh hN;have HS:=zqh hN.size;(go_wp2_with fail);clear bb;clear hHeld;refine hK.out _ _ hN (fun hHeld => ?_);clear hK K hN;(try simp only [zq,Act.put]);refine zqt (i:=8) (v:=?v8a8) ?y8a8 ?r8a8
  case y8a8 =>
    intro u hSu;go_simp;(try with_reducible rfl)
  (try simp only [zq,Act.put]);refine zqt (i:=9) (v:=?v9a8) ?y9a8 ?r9a8
  case y9a8 =>
    intro u hSu;go_simp;(try with_reducible rfl)
  (try simp only [zq,Act.put]);refine zqt (i:=10) (v:=?v10a8) ?y10a8 ?r10a8
  case y10a8 =>
    intro u hSu;go_simp;(try with_reducible rfl)
  (try simp only [zq,Act.put]);refine zqt (i:=11) (v:=?v11a8) ?y11a8 ?r11a8
  case y11a8 =>
    intro u hSu;go_simp;(try with_reducible rfl)
  (try simp only [zq,Act.put]);refine zqt (i:=12) (v:=?v12a8) ?y12a8 ?r12a8
  case y12a8 =>
    intro u hSu;go_simp;(try with_reducible rfl)
  (try simp only [zq,Act.put]);refine wpAnyH_done (by kernel_rfl) ?_ _;refine NoPanic.normal ?_;(go_wp2_with fail);go_ret2;exact ⟨_,_,_,rfl,fun hz => (rowN_two _ _ _).le HS.out,below_then HB.out (al_one _ _)⟩
theorem divided1 (W : World) (p : Addr) (g0 : FuncId) (eg : Ent g0) (hp : W.cell? p = some (.func (.func g0) #[] #[])) (hpl : p.block < W.heap.size) (Q R C : Int → Int → Int → Int)
    (hc : ∀ a b d w,cellR a → cellR b → cellR d → Calls Tryz.prog g0 #[.int .i64 a,.int .i64 b,.int .i64 d] w fun e w' => e = .returned (.tuple #[.int .i64 (Q a b d),.int .i64 (R a b d),.int .i64 (C a b d)]) ∧ Below w.heap.size w w')
    (w : World) (A : Option Addr) (c : Nat) (x : List Int) (b0 : Kp W w) (hx : Takes w 3 A c x) :
    Calls Tryz.prog 209 #[.slice A 3 c,.pointer (some p)] w (CellOut [R (x.getD 0 0) (x.getD 1 0) (x.getD 2 0),Q (x.getD 0 0) (x.getD 1 0) (x.getD 2 0)] (C (x.getD 0 0) (x.getD 1 0) (x.getD 2 0)) w):=by
  obtain ⟨a,b,d,g,o,rfl,rfl,hg,c0,c1,c2,ha,hb,hd⟩:=hx.three;show Calls _ _ _ _ (CellOut [R a b d,Q a b d] (C a b d) w);have HC:=zqh fun w => hc a b d w ha hb hd
  clear hx hc;have HP : Hid (w.cell? p = some (.func (.func g0) #[] #[])):=(b0.cell hpl).trans hp;have hpw : p.block < w.heap.size:=Nat.lt_of_lt_of_le hpl b0.size;clear hp hpl b0;go_enter Tryz.func209,Tryz.ntmps209;go_upto_region 1 with fail
  refine wp_region_noPanic ?_;refine wp_region_held_drew (S:=fun a => Below w.heap.size w a) (by kernel_rfl) ?_ (fun hHeld => ?_)
  · exact (Below.refl _ _).drew
  refine zqt (i:=0) (v:=?v0a9) ?y0a9 ?r0a9
  case y0a9 =>
    intro u hSu;(try dsimp only at hSu);have qp:=(hSu.cell (p:=p) hpw).trans HP.out;go_simp;(try with_reducible rfl)
  (try simp only [zq,Act.put]);refine zqt (i:=1) (v:=?v1a9) ?y1a9 ?r1a9
  case y1a9 =>
    intro u hSu;go_simp;(try with_reducible rfl)
  (try simp only [zq,Act.put]);refine zqt (i:=2) (v:=?v2a9) ?y2a9 ?r2a9
  case y2a9 =>
    intro u hSu;go_simp;(try with_reducible rfl)
  (try simp only [zq,Act.put]);refine zqt (i:=3) (v:=?v3a9) ?y3a9 ?r3a9
  case y3a9 =>
    intro u hSu;(try dsimp only at hSu);have q0:=(hSu.cell (p:=⟨g,o,none⟩) hg).trans c0;have q1:=(hSu.cell (p:=⟨g,o + 1,none⟩) hg).trans c1;have q2:=(hSu.cell (p:=⟨g,o + 2,none⟩) hg).trans c2;go_simp;(try with_reducible rfl)
  (try simp only [zq,Act.put]);refine zqt (i:=4) (v:=?v4a9) ?y4a9 ?r4a9
  case y4a9 =>
    intro u hSu;go_simp;(try with_reducible rfl)
  (try simp only [zq,Act.put]);refine zqt (i:=5) (v:=?v5a9) ?y5a9 ?r5a9
  case y5a9 =>
    intro u hSu;go_simp;(try with_reducible rfl)
  (try simp only [zq,Act.put]);refine zqt (i:=6) (v:=?v6a9) ?y6a9 ?r6a9
  case y6a9 =>
    intro u hSu;(try dsimp only at hSu);have q0:=(hSu.cell (p:=⟨g,o,none⟩) hg).trans c0;have q1:=(hSu.cell (p:=⟨g,o + 1,none⟩) hg).trans c1;have q2:=(hSu.cell (p:=⟨g,o + 2,none⟩) hg).trans c2;go_simp;(try with_reducible rfl)
  (try simp only [zq,Act.put]);refine zqt (i:=7) (v:=?v7a9) ?y7a9 ?r7a9
  case y7a9 =>
    intro u hSu;go_simp;(try with_reducible rfl)
  (try simp only [zq,Act.put]);refine zqt (i:=8) (v:=?v8a9) ?y8a9 ?r8a9
  case y8a9 =>
    intro u hSu;go_simp;(try with_reducible rfl)
  (try simp only [zq,Act.put]);refine zqt (i:=9) (v:=?v9a9) ?y9a9 ?r9a9
  case y9a9 =>
    intro u hSu;(try dsimp only at hSu);have q0:=(hSu.cell (p:=⟨g,o,none⟩) hg).trans c0;have q1:=(hSu.cell (p:=⟨g,o + 1,none⟩) hg).trans c1;have q2:=(hSu.cell (p:=⟨g,o + 2,none⟩) hg).trans c2;go_simp;(try with_reducible rfl)
  (try simp only [zq,Act.put]);refine zqr 10 fun K hK => ?_
  go_simp;refine (HC.out _).mono ?_;rintro e u1 ⟨rfl,bb⟩;have hN:=below_then hHeld bb;have HB:=zqh hN;have HS:=zqh hN.size;(go_wp2_with fail);clear bb;clear hHeld;refine hK.out _ _ hN (fun hHeld => ?_);clear hK K hN;(try simp only [zq,Act.put]);refine zqt (i:=11) (v:=?v11a9) ?y11a9 ?r11a9
  case y11a9 =>
    intro u hSu;go_simp;(try with_reducible rfl)
  (try simp only [zq,Act.put]);refine zqt (i:=12) (v:=?v12a9) ?y12a9 ?r12a9
  case y12a9 =>
    intro u hSu;go_simp;(try with_reducible rfl)
  (try simp only [zq,Act.put]);refine zqt (i:=13) (v:=?v13a9) ?y13a9 ?r13a9
  case y13a9 =>
    intro u hSu;go_simp;(try with_reducible rfl)
  (try simp only [zq,Act.put]);refine zqr 14 fun K hK => ?_
  go_simp;refine (restFirst_any _ _ _ _).mono ?_;rintro e u2 ⟨B,m,d9,rfl,hr,bb⟩;have hN:=below_then hHeld bb;have HB:=zqh hN;have HS:=zqh hHeld.size;(go_wp2_with fail);clear bb;clear hHeld;refine hK.out _ _ hN (fun hHeld => ?_);clear hK K hN;(try simp only [zq,Act.put]);refine zqt (i:=15) (v:=?v15a9) ?y15a9 ?r15a9
  case y15a9 =>
    intro u hSu;go_simp;(try with_reducible rfl)
  (try simp only [zq,Act.put]);refine zqt (i:=16) (v:=?v16a9) ?y16a9 ?r16a9
  case y16a9 =>
    intro u hSu;go_simp;(try with_reducible rfl)
  (try simp only [zq,Act.put]);refine zqt (i:=17) (v:=?v17a9) ?y17a9 ?r17a9
  case y17a9 =>
    intro u hSu;go_simp;(try with_reducible rfl)
  (try simp only [zq,Act.put]);refine zqt (i:=18) (v:=?v18a9) ?y18a9 ?r18a9
  case y18a9 =>
    intro u hSu;go_simp;(try with_reducible rfl)
  (try simp only [zq,Act.put]);refine wpAnyH_done (by kernel_rfl) ?_ _;refine NoPanic.normal ?_;(go_wp2_with fail);go_ret2;exact ⟨B,m,d9,rfl,fun hz => (hr hz).le HS.out,HB.out⟩
end Go.Proofs.YtlgnijhemfkflaaGreatDoor

namespace Go.Proofs.YtlgnijhemfkflaaGreatDoor
open Go.RowKit


theorem turns1 (W : World) (p : Addr) (g : FuncId) (cs : Array Value) (t : Nat) (f : Fn3) (eg : Ent g)
    (hc : ∀ w k L A c x,Kp W w → Ok k L → IsVm w k L → Takes w t A c x → Calls Tryz.prog g (#[vmV k,.slice A t c] ++ cs) w (TurnOut (f k L x) k w)) (w : World) (k : VmK) (L : VmL) (A : Option Addr) (c : Nat) (x : List Int)
    (b0 : Kp W w) (hp : w.cell? p = some (.func (.func g) #[] cs)) (hpl : p.block < w.heap.size) (ok : Ok k L) (h : IsVm w k L) (hx : Takes w t A c x) :
    Calls Tryz.prog 240 #[vmV k,.slice A t c,.pointer (some p)] w (ActOut ⟨(f k L x).c,[],(f k L x).K,(f k L x).L⟩ k w):=by
  generalize hE : f k L x = E;go_enter Tryz.func240,Tryz.ntmps240;go_upto_region 1 with fail
  generalize hw1 : World.alloc (World.alloc _ _) _ = w1;have kb : Below w.heap.size w w1:=by rw [← hw1]; exact al_two _ _ _
  have kx : VBox w1 w.heap.size k:=by rw [← hw1]; exact (in_two w k _).2
  have kz : VBox w1 (w.heap.size + 1) vm0:=by rw [← hw1]; exact in_two0 w _
  have KS : Hid (w1.heap.size = w.heap.size + 1 + 1):=by show _ = _; rw [← hw1]; exact in_twos w _ _
  clear hw1;have hp1:=(kb.cell (p:=p) hpl).trans hp;have HC:=zqh (hc w1 k L A c x (kp_then b0 kb) ok (h.keep kb) (hx.keep kb));have X1:=zqh kx;have Z1:=zqh kz;have B1:=zqh kb;have V0:=zqh h;clear hc b0 kb kx kz h hx hp ok;rw [hE] at HC;(go_wp2_with (refine wpList_vload (by rfl) _ rfl w.heap.size k rfl X1.out ?_));refine HC.out.mono ?_;rintro e w2 ⟨j,rfl,hr,bb⟩;have X2:=zqh (X1.out.keep bb);have Z2:=zqh (Z1.out.keep bb);have B2:=zqh (below_then B1.out bb);have HR:=zqh hr;have S2:=zqh bb.size;clear HC X1 Z1 B1 bb hr;have OV:=zqh (vbox_zero w2);have OX:=zqh (vrow OV.out j);have Z3:=zqh (vrow_fr (Z2.out.keep (al_one w2 (.cells (vmC vm0) 36))) (by have:=Z2.out.lt; omega : w.heap.size + 1 ≠ w2.heap.size) (vmC j));have B3:=zqh (below_setRow (below_then B2.out (al_one w2 (.cells (vmC vm0) 36))) (by have:=B2.out.size; omega : w.heap.size ≤ w2.heap.size) (vmC j));have E3 : Hid (Ex (fun g => g = w2.heap.size ∨ g = w.heap.size + 1) w2 ((w2.alloc (.cells (vmC vm0) 36)).setRow w2.heap.size (vmC j))):=((Ex.refl _ _).below (al_one _ _)).row (.inl rfl) _;(go_wp2_with (first | (refine wpList_vstore (by rfl) _ _ rfl w2.heap.size vm0 j rfl rfl OV.out ?_) | (refine wpList_vload (by rfl) _ rfl w2.heap.size j rfl OX.out ?_) | (refine wpList_vstore (by rfl) _ _ rfl (w.heap.size + 1) vm0 j rfl rfl Z3.out ?_)));have kb2:=below_setRow B3.out (show w.heap.size ≤ w.heap.size + 1 by omega) (vmC j);refine bodyPost_ret (res_ctt rfl _ _ _ _ rfl (vrow Z3.out j)) rfl ⟨j,none,0,0,rfl,fun hz => ?_,kb2⟩
  obtain ⟨hj,hs,hl⟩:=HR.out hz;refine ⟨V0.out.ex hj hl (E3.out.row (.inr rfl) (vmC j)) ?_,hs,hl.le (by have:=KS.out; omega),rowN_nil _ _⟩;intro g hg h;have:=KS.out
  rcases h with h | rfl
  · omega
  · exact ⟨by omega,by omega,vbox_nou8 Z2.out⟩
end Go.Proofs.YtlgnijhemfkflaaGreatDoor
