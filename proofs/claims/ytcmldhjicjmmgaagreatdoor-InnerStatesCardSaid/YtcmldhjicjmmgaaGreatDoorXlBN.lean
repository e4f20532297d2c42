/- Part 40. -/
import Derived.Test.YtcmldhjicjmmgaaGreatDoorXlBM
set_option linter.unusedVariables false
set_option linter.unusedSimpArgs false
set_option maxRecDepth 100000
set_option maxHeartbeats 4000000

namespace Go.Proofs.YtcmldhjicjmmgaaGreatDoor
open Go.RowKit


theorem free_d9 {k : VmK} {b : Nat} (f : Free k b) (g n c : Nat) (hg : g ≠ b) : Free { k with dA:=some ⟨g,0,none⟩,dn:=n,dc:=c } b:=⟨f.p,.inr fun q hq e => by cases hq; exact hg e,f.r,f.f,f.w,f.e,f.h⟩
theorem sc_d9 {k j : VmK} (h : Sc k j) (A : Option Addr) (n c : Nat) : Sc { k with dA:=A,dn:=n,dc:=c } j:=⟨h.cm,h.cd,h.cr,h.cw,h.co,h.here,h.last,h.qo,h.free,h.next,h.arg,h.self,h.now⟩
theorem loops_any (a : Addr) (x : Int) (n k : Nat) (w : World) (g : Glob a w) (hn : n ≤ 255) (hk : (n : Int) % 30 = (k : Int)) (hk3 : k < 30) (h0 : -9000000000000000000 ≤ x) (h1 : x ≤ 9000000000000000000) (g1 : decide (9000000000000000000 < x) = false) (g2 : decide (x < -9000000000000000000) = false) : Calls Tryz.prog 4 #[.int .i64 x,.int .u8 (n : Int)] w fun e w' => e = .returned (.bool true) ∧ Below w.heap.size w w':=by
  have G0:=zqh (g);have B0:=zqh (Below.refl w.heap.size w);clear g;go_enter Tryz.func4,Tryz.ntmps4;(go_wp2_with fail);refine (shown_inn a _ G0.out).mono ?_;rintro e w1 ⟨rfl,bb⟩;have G1:=zqh (G0.out.keep bb);have B1:=zqh (below_then B0.out bb);clear G0 B0;clear bb;(go_wp2_with fail);refine (fresh_any _).mono ?_;rintro e w2 ⟨km,rfl,hv,hs,bb⟩;have G2:=zqh (G1.out.keep bb);have B2:=zqh (below_then B1.out bb);clear G1 B1;have V2:=zqh (hv);have S0:=zqh hs;clear bb hv hs;(go_wp2_with fail);refine (xt_lit 5 (by decide) _ (by kernel_rfl) 72 (by decide) _).mono ?_;rintro e w3 ⟨rfl,bb⟩;have G3:=zqh (G2.out.keep bb);have V3:=zqh (V2.out.keep bb);have B3:=zqh (below_then B2.out bb);clear G2 V2 B2;clear bb;(go_wp2_with fail);refine (xt_lit 15 (by decide) _ (by kernel_rfl) 152 (by decide) _).mono ?_;rintro e w4 ⟨rfl,bb⟩;have G4:=zqh (G3.out.keep bb);have V4:=zqh (V3.out.keep bb);have B4:=zqh (below_then B3.out bb);clear G3 V3 B3;clear bb;(go_wp2_with fail);refine (xt_lit 6 (by decide) _ (by kernel_rfl) 80 (by decide) _).mono ?_;rintro e w5 ⟨rfl,bb⟩;have G5:=zqh (G4.out.keep bb);have V5:=zqh (V4.out.keep bb);have B5:=zqh (below_then B4.out bb);clear G4 V4 B4;clear bb;(go_wp2_with fail);refine (xt_lit 0 (by decide) _ (by kernel_rfl) 32 (by decide) _).mono ?_;rintro e w6 ⟨rfl,bb⟩;have G6:=zqh (G5.out.keep bb);have V6:=zqh (V5.out.keep bb);have B6:=zqh (below_then B5.out bb);clear G5 V5 B5;clear bb;(go_wp2_with fail);generalize hw : World.alloc _ _ = w7
  have bb : Below w6.heap.size w6 w7:=by rw [← hw]; exact al_one _ _
  have hx : Row w7 (some ⟨w6.heap.size,0,none⟩) 6 6 [72,1416,152,80,1392,32]:=by rw [← hw]; exact row_litI _ [72,1416,152,80,1392,32] (by simp)
  clear hw;have G7:=zqh (G6.out.keep bb);have V7:=zqh (V6.out.keep bb);have B7:=zqh (below_then B6.out bb);clear G6 V6 B6;have RW7:=zqh (hx);clear bb hx;refine (laid_any (L:=newL 2048) 1368 _ 6 6 [72,1416,152,80,1392,32] _ V7.out RW7.out (by decide) (by decide) (by decide) (by decide) (by decide)).mono ?_;rintro e w8 ⟨A2,n2,c2,rfl,hv,bb⟩;have G8:=zqh (G7.out.keep bb);have V8:=zqh (V7.out.keep bb);have RW8:=zqh (RW7.out.keep bb);have B8:=zqh (below_then B7.out bb);clear G7 V7 RW7 B7;have U8:=zqh (hv);clear bb hv;clear RW8;clear V8;have S1:=zqh (sc_m S0.out A2 none n2 c2 0 0);clear S0;have FX:=zqh (free_of U8.out (Nat.le_refl w8.heap.size));have LX : Hid (3 ≤ w8.heap.size):=G8.out.lo;have NX : Hid (w.heap.size ≤ w8.heap.size):=B8.out.size;go_upto_region 6 with (refine wpList_vstore (by rfl) _ _ rfl _ vm0 (memK km A2 n2 c2) rfl rfl (vbox_zero _) ?_)
  generalize hw : World.setRow _ _ _ = w9;have bb : Below w8.heap.size w8 w9:=by rw [← hw]; exact below_setRow (al_one _ _) (Nat.le_refl _) _
  have hx : VBox w9 w8.heap.size (memK km A2 n2 c2):=by rw [← hw]; exact vrow (vbox_zero _) _
  clear hw;have G9:=zqh (G8.out.keep bb);have U9:=zqh (U8.out.keep bb);have B9:=zqh (below_then B8.out bb);clear G8 U8 B8;have X9:=zqh (hx);clear bb hx;have ka:=al_one w9 (.cells #[.int .i64 (x + (k : Int)),.int .i64 (x)] 3);have z8:=(X9.out.keep ka).c8;have y8:=(X9.out.keep ka).free.2.2.2.2.2.2.2.2.1;have hlt:=zqh X9.out.lt;have KA:=zqh ka;clear ka;go_upto_region 7 with (first | (refine wpList_vload (by rfl) _ rfl (w8.heap.size) (memK km A2 n2 c2) rfl X9.out ?_))
  clear z8 y8;have ka:=KA.out;clear KA;generalize hw : World.setCell (World.alloc _ _) _ _ = w10;have hr : Row (w9.alloc (.cells #[.int .i64 (x + (k : Int)),.int .i64 (x)] 3)) (some ⟨w9.heap.size,0,none⟩) 2 2 [x + (k : Int),x]:=row_litI w9 [x + (k : Int),x] (by simp);have V9 : IsVm (w9.alloc (.cells #[.int .i64 (x + (k : Int)),.int .i64 (x)] 3)) ({ (memK km A2 n2 c2) with dA:=some ⟨w9.heap.size,0,none⟩,dn:=2,dc:=2 }) (stL9 M6 [x + (k : Int),x] []):=⟨(U9.out.keep ka).m,hr,(U9.out.keep ka).r,(U9.out.keep ka).f,(U9.out.keep ka).dict,(U9.out.keep ka).o,(U9.out.keep ka).q,(U9.out.keep ka).e,(U9.out.keep ka).h⟩;have F9 : Free ({ (memK km A2 n2 c2) with dA:=some ⟨w9.heap.size,0,none⟩,dn:=2,dc:=2 }) (w8.heap.size):=free_d9 FX.out _ _ _ (by have:=hlt.out; omega);have G10 : Hid (Glob a w10):=by show Glob _ _; rw [← hw]; exact (G9.out.keep ka).ex LX.out (ex_cell _ (w8.heap.size) 8 (.slice (some ⟨w9.heap.size,0,none⟩) 2 2))
  have U10 : Hid (IsVm w10 ({ (memK km A2 n2 c2) with dA:=some ⟨w9.heap.size,0,none⟩,dn:=2,dc:=2 }) (stL9 M6 [x + (k : Int),x] [])):=by show IsVm _ _ _; rw [← hw]; exact isvm_apart V9 F9 (ex_cell _ _ _ _) (vbox_nou8 (X9.out.keep ka))
  have X10 : Hid (VBox w10 (w8.heap.size) ({ (memK km A2 n2 c2) with dA:=some ⟨w9.heap.size,0,none⟩,dn:=2,dc:=2 })):=by show VBox _ _ _; rw [← hw]; exact (X9.out.keep ka).set_d _ _ _
  have B10 : Hid (Below w.heap.size w w10):=by show Below _ _ _; rw [← hw]; exact (below_then B9.out ka).setCell (p:=⟨w8.heap.size,8,none⟩) NX.out _
  clear hw ka hr hlt V9 G9 U9 X9 B9;have FX:=zqh F9;clear F9;obtain ⟨N,HR⟩:=loops_run a (x:=x) (k:=k) h0 h1 hk3;(go_wp2_with (first | (refine wpList_vload (by rfl) _ rfl (w8.heap.size) ({ (memK km A2 n2 c2) with dA:=some ⟨w9.heap.size,0,none⟩,dn:=2,dc:=2 }) rfl X10.out ?_)));refine (run_st HR _ (by decide) U10.out (sc_d9 S1.out _ _ _) G10.out).mono ?_;rintro e w11 ⟨kx,rfl,hv,hs,bb⟩;have G11:=zqh (G10.out.keep bb);have U11:=zqh (U10.out.keep bb);have X11:=zqh (X10.out.keep bb);have B11:=zqh (below_then B10.out bb);clear G10 U10 X10 B10;have VX11:=zqh (hv);clear bb hv hs HR;clear X11;clear U11;go_upto_region 8 with (refine wpList_vstore (by rfl) _ _ rfl _ vm0 (kx) rfl rfl (vbox_zero _) ?_)
  generalize hw : World.setRow _ _ _ = w12;have bb : Below w11.heap.size w11 w12:=by rw [← hw]; exact below_setRow (al_one _ _) (Nat.le_refl _) _
  have hx : VBox w12 w11.heap.size (kx):=by rw [← hw]; exact vrow (vbox_zero _) _
  clear hw;have G12:=zqh (G11.out.keep bb);have VX12:=zqh (VX11.out.keep bb);have B12:=zqh (below_then B11.out bb);clear G11 VX11 B11;have Y12:=zqh (hx);clear bb hx;have HN : Hid (kx.dn = k):=by show _ = _; have:=VX12.out.d.1; rw [show (stL9 M6 (rowI x k) []).d = rowI x k from rfl,rowI_len] at this; omega
  have z1:=Y12.out.c8;rw [HN.out] at z1;(go_wp2_with (first | (refine wpList_vload (by rfl) _ rfl (w11.heap.size) (kx) rfl Y12.out ?_)))
  go_loopw [11] (fun s11 wr => ∃ (i : Nat),s11 = .int .i64 (i : Int) ∧ i ≤ k ∧ w12 = wr) (fun s11 _ => k - (intOf s11).toNat)
  case atStart => exact ⟨0,rfl,Nat.zero_le _,rfl⟩
  case round =>
    obtain ⟨i,rfl,hi,rfl⟩:=hrel
    by_cases hik : i < k
    · obtain ⟨g9,o9,eA,hg,hc⟩:=VX12.out.d.cells (by have:=HN.out; omega)
      have hx:=hc i (by have:=HN.out; omega);rw [show (stL9 M6 (rowI x k) []).d.getD i 0 = x + (i : Int) from by show (rowI x k).getD i 0 = _; rw [List.getD_eq_getElem?_getD,rowI_at x hik]; rfl] at hx;rw [eA] at z1;clear hc eA;go_wp2
      go_roundw
      case rel => exact ⟨i + 1,by simp,by omega,by trivial⟩
      case measure => simp [intOf]; omega
    · obtain rfl : i = k:=by omega
      go_wp2;go_ret;exact ⟨rfl,B12.out⟩
end Go.Proofs.YtcmldhjicjmmgaaGreatDoor
