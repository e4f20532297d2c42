/- Part 20. -/
import Derived.Test.YtcmldhjicjmmgaaGreatDoorXkAS
set_option linter.unusedVariables false
set_option linter.unusedSimpArgs false
set_option maxRecDepth 100000
set_option maxHeartbeats 4000000

namespace Go.Proofs.YtcmldhjicjmmgaaGreatDoor
open Go.RowKit Go.Extern.Stop Go.Stop Go.Extern


theorem as_code (at_ c x : Int) (t : Nat) (w : World) (hE : w.cell? ⟨1,0,none⟩ = some (rtyV 68)) (ht : w.heap[t]? = some (.cells #[.int .i64 x] 91)) :
    Calls Tryz.prog 45 #[frmV at_ (thrV c),.iface 109 (.pointer (some ⟨t,0,none⟩))] w
      fun e w' => e = .returned (.bool true) ∧ w'.heap[t]? = some (.cells #[.int .i64 c] 91) ∧ Below t w w':=by
  have hVo:=@run_callFunc_extern Tryz.prog 65 _ valE Tryz.func65 (by kernel_rfl) (by kernel_rfl) (by kernel_rfl) (by kernel_rfl);have hTy:=@run_callFunc_extern Tryz.prog 66 _ typE Tryz.func66 (by kernel_rfl) (by kernel_rfl) (by kernel_rfl) (by kernel_rfl);have hNi:=@run_callFunc_extern Tryz.prog 67 _ nilE Tryz.func67 (by kernel_rfl) (by kernel_rfl) (by kernel_rfl) (by kernel_rfl);have hKi:=@run_callFunc_extern Tryz.prog 325 _ kndE Tryz.func325 (by kernel_rfl) (by kernel_rfl) (by kernel_rfl) (by kernel_rfl);have hEl:=@run_callFunc_extern Tryz.prog 334 _ eltE Tryz.func334 (by kernel_rfl) (by kernel_rfl) (by kernel_rfl) (by kernel_rfl);have hIm:=@run_callFunc_extern Tryz.prog 335 _ impE Tryz.func335 (by kernel_rfl) (by kernel_rfl) (by kernel_rfl) (by kernel_rfl);have vP:=Tryz.valP;have tP:=Tryz.typP;have mK:=Tryz.methodKind;have kP:=Tryz.kndP;have kT:=Tryz.kndT;have mE:=Tryz.methodElem;have mI:=Tryz.methodImplements;have eP:=Tryz.eltP;have iT:=Tryz.impT;have htl : t < w.heap.size:=(Array.getElem?_eq_some_iff.1 ht).1;have hEl2 : (⟨1,0,none⟩ : Addr).block < w.heap.size:=World.block_lt_of_cell? _ _ hE;have hb1 : Below w.heap.size w ((w.alloc (.cells #[.pointer (some ⟨t,0,none⟩)] 109)).alloc (.cells #[.pointer (some ⟨8,109,none⟩),.pointer (some ⟨w.heap.size,0,none⟩),.int .u64 150] 146)):=al_two _ _ _;have hc:=heap_alloc2_old w (.cells #[.pointer (some ⟨t,0,none⟩)] 109) (.cells #[.pointer (some ⟨8,109,none⟩),.pointer (some ⟨w.heap.size,0,none⟩),.int .u64 150] 146)
  have hv : ((w.alloc (.cells #[.pointer (some ⟨t,0,none⟩)] 109)).alloc (.cells #[.pointer (some ⟨8,109,none⟩),.pointer (some ⟨w.heap.size,0,none⟩),.int .u64 150] 146)).cell? ⟨w.heap.size,0,none⟩ = some (.pointer (some ⟨t,0,none⟩)):=by rw [cell_of_row _ _ _ _ _ _ hc]; rfl
  have hN:=Tryz.nilP ⟨w.heap.size,0,none⟩ ⟨t,0,none⟩ _ hv;have hE2:=(hb1.cell (p:=⟨1,0,none⟩) hEl2).trans hE;have ht2:=(hb1.block t htl).trans ht;have HA:=zqh (as_hit at_ c x w.heap.size t _ hv ht2);have HB:=zqh hb1;have HL:=zqh htl;have HT:=zqh ht2;clear hv ht2 hb1 hc ht htl hE hEl2;go_enter Tryz.func45,Tryz.ntmps45;(go_wp2_with fail);refine HA.out.mono ?_;rintro e w1 ⟨rfl,hw1⟩;have HW:=zqh hw1;clear hw1;(go_wp2_with fail);go_ret;refine ⟨rfl,?_,?_⟩
  · rw [HW.out]
    exact setRow_heap _ t _ _ _ _ ((((below_one _ _).trans ((below_one _ _).mono (by simp))).trans ((below_one _ _).mono (by simp))).block t (Nat.lt_of_lt_of_le HL.out HB.out.size) |>.trans HT.out)
  · rw [HW.out]
    exact below_setRow ((HB.out.trans ((((below_one _ _).trans ((below_one _ _).mono (by simp))).trans ((below_one _ _).mono (by simp))).mono HB.out.size)).mono (Nat.le_of_lt HL.out)) (Nat.le_refl _) _
theorem codeOf_any (at_ c : Int) (w : World) (hE : w.cell? ⟨1,0,none⟩ = some (rtyV 68)) :
    Calls Tryz.prog 30 #[frmV at_ (thrV c)] w fun e w' => e = .returned (.int .i64 c) ∧ Below w.heap.size w w':=by
  have hEl2 : (⟨1,0,none⟩ : Addr).block < w.heap.size:=World.block_lt_of_cell? _ _ hE;have b1 : Below w.heap.size w (w.alloc (.cells #[.int .i64 0] 91)):=below_one _ _;have HA:=zqh (as_code at_ c 0 w.heap.size (w.alloc (.cells #[.int .i64 0] 91)) ((b1.cell (p:=⟨1,0,none⟩) hEl2).trans hE) (heap_alloc_new w _));have HB:=zqh b1;clear hE hEl2 b1;go_enter Tryz.func30,Tryz.ntmps30;(go_wp2_with fail);refine HA.out.mono ?_;rintro e w1 ⟨rfl,hc,hb⟩;have p0:=cell_of_row w1 w.heap.size 0 _ _ _ hc;have HB2:=zqh hb;clear hc hb;(go_wp2_with fail);go_ret;exact ⟨rfl,HB.out.trans HB2.out⟩
open Go.RowKit


theorem wskip_any (S : RS) : WGo0 109  S ({ S with ip:=wrap64 (S.ip + 8) }) .nilIface:=by
  intro b w H;have W0:=zqh H;have B0:=zqh (Below.refl b w);have P0:=H.cip;have F0:=H.fr 23;clear H;go_enter Tryz.func109,Tryz.ntmps109;go_wp2;refine bodyPost_end (results_none rfl _ _ _) rfl ?_;exact ⟨rfl,W0.out.set_ip _,B0.out.setCell (p:=⟨b,23,none⟩) (Nat.le_refl _) _⟩
theorem wenter_any (S : RS) (x : Int) (hr : (S.L.r.length : Int) < S.k.cr) (hl : S.L.r.length ≤ 60000) : WGo1 77 (x) S ({ S.rS (S.L.r ++ [S.ip]) with ip:=x }) .nilIface:=by
  intro b w H;have W0:=zqh H;have B0:=zqh (Below.refl b w);have P0:=H.cip;have F0:=H.fr 23;clear H;go_enter Tryz.func77,Tryz.ntmps77;(go_wp2_with fail);refine ((wrpush_any S _ hr hl) b _ W0.out).mono ?_;rintro e w1 ⟨rfl,hw,hb⟩;have W1:=zqh hw;have B1:=zqh (B0.out.trans hb);have P1:=hw.cip;have F1:=hw.fr 23;clear W0 B0 P0 F0 hw hb;(go_wp2_with fail);refine bodyPost_end (results_none rfl _ _ _) rfl ?_;exact ⟨rfl,W1.out.set_ip _,B1.out.setCell (p:=⟨b,23,none⟩) (Nat.le_refl _) _⟩
theorem wthen_any (S : RS) (x : Int) : WGo1 106 (x) S ({ S with wv:=x,d:=true }) .nilIface:=by
  intro b w H;have W0:=zqh H;have B0:=zqh (Below.refl b w);have P0:=H.cip;have F0:=H.fr 23;have P24:=H.cw;have P25:=H.cd;have F24:=H.fr 24;have F25:=H.fr 25;clear H;go_enter Tryz.func106,Tryz.ntmps106;go_wp2;refine bodyPost_end (results_none rfl _ _ _) rfl ?_;exact ⟨rfl,(W0.out.set_w _).set_d _,(B0.out.setCell (p:=⟨b,24,none⟩) (Nat.le_refl _) _).setCell (p:=⟨b,25,none⟩) (Nat.le_refl _) _⟩
theorem go_exit (S : RS) (l : List Int) (x : Int) (he : S.L.r = l ++ [x]) (hl : S.L.r.length ≤ 60000) : WGo1 85 (0) S ({ S.rS l with ip:=x }) .nilIface:=by
  intro b w H;have W0:=zqh H;have B0:=zqh (Below.refl b w);have P0:=H.cip;have F0:=H.fr 23;clear H;go_enter Tryz.func85,Tryz.ntmps85;(go_wp2_with fail);refine ((wrpop_any S l x he hl) b _ W0.out).mono ?_;rintro e w1 ⟨rfl,hw,hb⟩;have W1:=zqh hw;have B1:=zqh (B0.out.trans hb);have P1:=hw.cip;have F1:=hw.fr 23;clear W0 B0 P0 F0 hw hb;(go_wp2_with fail);refine bodyPost_end (results_none rfl _ _ _) rfl ?_;exact ⟨rfl,W1.out.set_ip _,B1.out.setCell (p:=⟨b,23,none⟩) (Nat.le_refl _) _⟩
theorem go_lit (S : RS) (hc : cellC S.L.m.1.length S.ip = 0) (hm : S.L.m.1.length ≤ 65536) (hx : (S.L.d.length : Int) < S.k.cd) (hd : S.L.d.length ≤ 60000) : WGo1 85 (1) S ({ S.dS (S.L.d ++ [fetchF S.L.m S.ip]) with ip:=wrap64 (S.ip + 8) }) .nilIface:=by
  intro b w H;have W0:=zqh H;have B0:=zqh (Below.refl b w);have P0:=H.cip;have F0:=H.fr 23;clear H;go_enter Tryz.func85,Tryz.ntmps85;(go_wp2_with fail);refine ((wfetch_any S _ hc hm) b _ W0.out).mono ?_;rintro e w1 ⟨rfl,hw,hb⟩;have W1:=zqh hw;have B1:=zqh (B0.out.trans hb);have P1:=hw.cip;have F1:=hw.fr 23;clear W0 B0 P0 F0 hw hb;(go_wp2_with fail);refine ((wpush_any S _ hx hd) b _ W1.out).mono ?_;rintro e w2 ⟨rfl,hw,hb⟩;have W2:=zqh hw;have B2:=zqh (B1.out.trans hb);have P2:=hw.cip;have F2:=hw.fr 23;clear W1 B1 P1 F1 hw hb;(go_wp2_with fail);refine ((wskip_any (S.dS (S.L.d ++ [fetchF S.L.m S.ip]))) b _ W2.out).mono ?_;rintro e w3 ⟨rfl,hw,hb⟩;have W3:=zqh hw;have B3:=zqh (B2.out.trans hb);have P3:=hw.cip;have F3:=hw.fr 23;clear W2 B2 P2 F2 hw hb;(go_wp2_with fail);refine bodyPost_end (results_none rfl _ _ _) rfl ?_;exact ⟨rfl,W3.out,B3.out⟩
theorem go_halt (S : RS) : WGo1 85 (8) S (S) (.iface 324 (.pointer (some S.a))):=by
  intro b w H;have W0:=zqh H;have B0:=zqh (Below.refl b w);have P0:=H.cip;have F0:=H.fr 23;obtain ⟨r9,h9⟩:=H;have PG:=h9.gl.h;have PE:=h9.box.c27;have FE:=h9.box.fr 27;clear h9;go_enter Tryz.func85,Tryz.ntmps85;go_wp2;refine bodyPost_end (results_none rfl _ _ _) rfl ?_;exact ⟨rfl,W0.out.set_e _ (by intro i h; cases h),B0.out.setCell (p:=⟨b,27,none⟩) (Nat.le_refl _) _⟩
theorem turn_toR (S : RS) (l : List Int) (x : Int) (he : S.L.d = l ++ [x]) (hd : S.L.d.length ≤ 60000) (hr : (S.L.r.length : Int) < S.k.cr) (hl : S.L.r.length ≤ 60000) : WGo1 84 (18) S ((S.dS l).rS (S.L.r ++ [x])) .nilIface:=by
  intro b w H;have W0:=zqh H;have B0:=zqh (Below.refl b w);have P0:=H.cip;have F0:=H.fr 23;clear H;go_enter Tryz.func84,Tryz.ntmps84;(go_wp2_with fail);refine ((wpop_any S l x he hd) b _ W0.out).mono ?_;rintro e w1 ⟨rfl,hw,hb⟩;have W1:=zqh hw;have B1:=zqh (B0.out.trans hb);have P1:=hw.cip;have F1:=hw.fr 23;clear W0 B0 P0 F0 hw hb;(go_wp2_with fail);refine ((wrpush_any (S.dS l) x hr hl) b _ W1.out).mono ?_;rintro e w2 ⟨rfl,hw,hb⟩;have W2:=zqh hw;have B2:=zqh (B1.out.trans hb);have P2:=hw.cip;have F2:=hw.fr 23;clear W1 B1 P1 F1 hw hb;(go_wp2_with fail);refine bodyPost_end (results_none rfl _ _ _) rfl ?_;exact ⟨rfl,W2.out,B2.out⟩
theorem turn_fromR (S : RS) (l : List Int) (x : Int) (he : S.L.r = l ++ [x]) (hl : S.L.r.length ≤ 60000) (hx : (S.L.d.length : Int) < S.k.cd) (hd : S.L.d.length ≤ 60000) : WGo1 84 (19) S ((S.rS l).dS (S.L.d ++ [x])) .nilIface:=by
  intro b w H;have W0:=zqh H;have B0:=zqh (Below.refl b w);have P0:=H.cip;have F0:=H.fr 23;clear H;go_enter Tryz.func84,Tryz.ntmps84;(go_wp2_with fail);refine ((wrpop_any S l x he hl) b _ W0.out).mono ?_;rintro e w1 ⟨rfl,hw,hb⟩;have W1:=zqh hw;have B1:=zqh (B0.out.trans hb);have P1:=hw.cip;have F1:=hw.fr 23;clear W0 B0 P0 F0 hw hb;(go_wp2_with fail);refine ((wpush_any (S.rS l) x hx hd) b _ W1.out).mono ?_;rintro e w2 ⟨rfl,hw,hb⟩;have W2:=zqh hw;have B2:=zqh (B1.out.trans hb);have P2:=hw.cip;have F2:=hw.fr 23;clear W1 B1 P1 F1 hw hb;(go_wp2_with fail);refine bodyPost_end (results_none rfl _ _ _) rfl ?_;exact ⟨rfl,W2.out,B2.out⟩
theorem made_col (S : RS) (x : Int) (hr : (S.L.r.length : Int) < S.k.cr) (hl : S.L.r.length ≤ 60000) : WGo2 62 (256) (x) S ({ S.rS (S.L.r ++ [S.ip]) with ip:=wrap64 (x + 8) }) .nilIface:=by
  intro b w H;have W0:=zqh H;have B0:=zqh (Below.refl b w);have P0:=H.cip;have F0:=H.fr 23;clear H;go_enter Tryz.func62,Tryz.ntmps62;(go_wp2_with fail);refine ((wenter_any S (wrap64 (x + 8)) hr hl) b _ W0.out).mono ?_;rintro e w1 ⟨rfl,hw,hb⟩;have W1:=zqh hw;have B1:=zqh (B0.out.trans hb);have P1:=hw.cip;have F1:=hw.fr 23;clear W0 B0 P0 F0 hw hb;(go_wp2_with fail);refine bodyPost_end (results_none rfl _ _ _) rfl ?_;exact ⟨rfl,W1.out,B1.out⟩


theorem kind_is {m : PM} {L : Nat} {p n : Int} (h : cellC L p = 0) (hf : fetchF m p = n) (hb : codeB n = true) : kindV m L p = n ∧ kindC m L p = 0:=by
  unfold kindV kindC;rw [hf,if_pos ⟨h,hb⟩,if_pos h,if_pos hb];exact ⟨rfl,rfl⟩
structure IsKind (S : RS) (p n : Int) : Prop where
  c : cellC S.L.m.1.length p = 0
  f : fetchF S.L.m p = n
  b : codeB n = true
  l : S.L.m.1.length ≤ 65536
theorem wkind {S : RS} {p n : Int} (K : IsKind S p n) {w : World} {b : Nat} {e : Value} {r : RnK} (h : WkR w b S e r) :
    Calls Tryz.prog 58 #[vmV r.v,.int .i64 p] w fun e w' => e = .returned (.tuple #[.int .i64 n,.int .i64 0]) ∧ Below w.heap.size w w':=by
  have e:=h.vm.mlen;have H:=vkind_any r.v S.L.m p w (zqh h.vm.m) (by have:=K.l; omega);obtain ⟨k1,k2⟩:=kind_is (L:=r.v.mn) (by rw [e]; exact K.c) K.f K.b;rw [k1,k2] at H;exact H
theorem wdoes (n : Int) (w : World) : Calls Tryz.prog 60 #[.int .i64 n] w fun e w' => e = .returned (.bool (decide (23 ≤ n ∧ n ≤ 129))) ∧ w = w':=by
  by_cases h1 : 23 ≤ n
  · by_cases h2 : n < 130
    · have H:=zqh (decide_eq_true (show 23 ≤ n ∧ n ≤ 129 from ⟨h1,by omega⟩))
      rw [H.out];go_enter Tryz.func60,Tryz.ntmps60;go_wp2;go_ret;exact ⟨rfl,rfl⟩
    · have H:=zqh (decide_eq_false (show ¬ (23 ≤ n ∧ n ≤ 129) from fun h => by omega))
      have g2 : decide (n < 130) = false:=by simp; omega
      rw [H.out];clear h2;go_enter Tryz.func60,Tryz.ntmps60;go_wp2;go_ret;exact ⟨rfl,rfl⟩
  · have H:=zqh (decide_eq_false (show ¬ (23 ≤ n ∧ n ≤ 129) from fun h => by omega))
    have g1 : decide (23 ≤ n) = false:=by simp; omega
    rw [H.out];clear h1;go_enter Tryz.func60,Tryz.ntmps60;go_wp2;go_ret;exact ⟨rfl,rfl⟩
theorem wgo1_back {f : FuncId} {n : Int} {S S' : RS} {x : Value} {b : Nat} {w w1 : World} (h : WGo1 f n S S' x) (hw : Wk w1 b S .nilIface) (hb : Below b w w1) : Calls Tryz.prog f #[.pointer (some ⟨b,0,none⟩),.int .i64 n] w1 (WPost b w S' x) :=
  (h b w1 hw).mono fun e w2 ⟨h1,h2,h3⟩ => ⟨h1,h2,hb.trans h3⟩
theorem own_0 {S S' : RS} {x : Value} (H : WGo1 85 0 S S' x) : WGo1 63 0 S S' x:=by
  intro b w W;have HC:=zqh (H b w W);clear H W;go_enter Tryz.func63,Tryz.ntmps63;(go_wp2_with fail);refine HC.out.mono ?_;rintro e w1 ⟨rfl,hw,hb⟩;(go_wp2_with fail);refine bodyPost_end (results_none rfl _ _ _) rfl ⟨rfl,hw,hb⟩
theorem own_1 {S S' : RS} {x : Value} (H : WGo1 85 1 S S' x) : WGo1 63 1 S S' x:=by
  intro b w W;have HC:=zqh (H b w W);clear H W;go_enter Tryz.func63,Tryz.ntmps63;(go_wp2_with fail);refine HC.out.mono ?_;rintro e w1 ⟨rfl,hw,hb⟩;(go_wp2_with fail);refine bodyPost_end (results_none rfl _ _ _) rfl ⟨rfl,hw,hb⟩
theorem own_8 {S S' : RS} {x : Value} (H : WGo1 85 8 S S' x) : WGo1 63 8 S S' x:=by
  intro b w W;have HC:=zqh (H b w W);clear H W;go_enter Tryz.func63,Tryz.ntmps63;(go_wp2_with fail);refine HC.out.mono ?_;rintro e w1 ⟨rfl,hw,hb⟩;(go_wp2_with fail);refine bodyPost_end (results_none rfl _ _ _) rfl ⟨rfl,hw,hb⟩
theorem own_9 {S S' : RS} {x : Value} (H : WGo1 85 9 S S' x) : WGo1 63 9 S S' x:=by
  intro b w W;have HC:=zqh (H b w W);clear H W;go_enter Tryz.func63,Tryz.ntmps63;(go_wp2_with fail);refine HC.out.mono ?_;rintro e w1 ⟨rfl,hw,hb⟩;(go_wp2_with fail);refine bodyPost_end (results_none rfl _ _ _) rfl ⟨rfl,hw,hb⟩
theorem own_13 {S S' : RS} {x : Value} (H : WGo1 83 13 S S' x) : WGo1 63 13 S S' x:=by
  intro b w W;have HC:=zqh (H b w W);clear H W;go_enter Tryz.func63,Tryz.ntmps63;(go_wp2_with fail);refine HC.out.mono ?_;rintro e w1 ⟨rfl,hw,hb⟩;(go_wp2_with fail);refine bodyPost_end (results_none rfl _ _ _) rfl ⟨rfl,hw,hb⟩
theorem own_14 {S S' : RS} {x : Value} (H : WGo1 83 14 S S' x) : WGo1 63 14 S S' x:=by
  intro b w W;have HC:=zqh (H b w W);clear H W;go_enter Tryz.func63,Tryz.ntmps63;(go_wp2_with fail);refine HC.out.mono ?_;rintro e w1 ⟨rfl,hw,hb⟩;(go_wp2_with fail);refine bodyPost_end (results_none rfl _ _ _) rfl ⟨rfl,hw,hb⟩
theorem own_18 {S S' : RS} {x : Value} (H : WGo1 84 18 S S' x) : WGo1 63 18 S S' x:=by
  intro b w W;have HC:=zqh (H b w W);clear H W;go_enter Tryz.func63,Tryz.ntmps63;(go_wp2_with fail);refine HC.out.mono ?_;rintro e w1 ⟨rfl,hw,hb⟩;(go_wp2_with fail);refine bodyPost_end (results_none rfl _ _ _) rfl ⟨rfl,hw,hb⟩
theorem own_19 {S S' : RS} {x : Value} (H : WGo1 84 19 S S' x) : WGo1 63 19 S S' x:=by
  intro b w W;have HC:=zqh (H b w W);clear H W;go_enter Tryz.func63,Tryz.ntmps63;(go_wp2_with fail);refine HC.out.mono ?_;rintro e w1 ⟨rfl,hw,hb⟩;(go_wp2_with fail);refine bodyPost_end (results_none rfl _ _ _) rfl ⟨rfl,hw,hb⟩
theorem word_own {S S' : RS} {x : Value} {p n : Int} (K : IsKind S p n) (h23 : n < 23) (H : WGo1 63 n S S' x) : WGo1 39 p S S' x:=by
  intro b w W;obtain ⟨r,h⟩:=W;have X:=zqh h.box;have h0:=zqh h;have HK:=zqh (wkind K h);have HD:=zqh (fun w => wdoes n w);rw [decide_eq_false (show ¬ (23 ≤ n ∧ n ≤ 129) from fun h => by omega)] at HD;have g1 : decide (300 ≤ n) = false:=by simp; omega
  have g2 : decide (256 ≤ n) = false:=by simp; omega
  have HG:=zqh H;clear K h H h23;go_enter Tryz.func39,Tryz.ntmps39;(go_wp2_with (first | (refine wpList_wkvload (by rfl) _ rfl b r _ rfl X.out ?_)));refine HK.out.mono ?_;rintro e w1 ⟨rfl,bb⟩;(go_wp2_with fail);refine (HD.out _).mono ?_;rintro e w2 ⟨rfl,rfl⟩;(go_wp2_with fail);refine (wgo1_back HG.out ⟨r,h0.out.keep bb⟩ (bb.mono (Nat.le_of_lt h0.out.box.lt))).mono ?_;rintro e w3 ⟨rfl,hw,hb⟩;(go_wp2_with fail);refine bodyPost_end (results_none rfl _ _ _) rfl ⟨rfl,hw,hb⟩
theorem word_256 {S S' : RS} {x : Value} {p : Int} (K : IsKind S p 256) (H : WGo2 62 256 p S S' x) : WGo1 39 p S S' x:=by
  intro b w W;obtain ⟨r,h⟩:=W;have X:=zqh h.box;have h0:=zqh h;have HK:=zqh (wkind K h);have HD:=zqh (fun w => wdoes 256 w);rw [show decide ((23 : Int) ≤ 256 ∧ (256 : Int) ≤ 129) = false from by decide] at HD;have HG:=zqh H;clear K h H;go_enter Tryz.func39,Tryz.ntmps39;(go_wp2_with (first | (refine wpList_wkvload (by rfl) _ rfl b r _ rfl X.out ?_)));refine HK.out.mono ?_;rintro e w1 ⟨rfl,bb⟩;(go_wp2_with fail);refine (HD.out _).mono ?_;rintro e w2 ⟨rfl,rfl⟩;(go_wp2_with fail);refine (HG.out b w1 ⟨r,h0.out.keep bb⟩).mono ?_;rintro e w3 ⟨rfl,hw,hb⟩;(go_wp2_with fail);refine bodyPost_end (results_none rfl _ _ _) rfl ⟨rfl,hw,(bb.mono (Nat.le_of_lt h0.out.box.lt)).trans hb⟩
def PGo (n : Int) (k : VmK) (L : VmL) (k' : VmK) (L' : VmL) : Prop:=∀ j w,Sc j k → Tab w → IsVm w j L → Calls Tryz.prog 61 #[vmV j,.int .i64 n] w fun e w' => ∃ i,e = .returned (.tuple #[vmV i,.int .i64 0]) ∧ IsVm w' i L' ∧ Sc i k' ∧ RLoc w.heap.size i j ∧ Below w.heap.size w w'
theorem word_prim {S : RS} {p n : Int} {k' : VmK} {L' : VmL} (K : IsKind S p n) (h23 : 23 ≤ n ∧ n ≤ 129) (H : PGo n S.k S.L k' L') : WGo1 39 p S { S with k:=k',L:=L' } .nilIface:=by
  intro b w W;obtain ⟨r,h⟩:=W;have X:=zqh h.box;have h0:=zqh h;have HK:=zqh (wkind K h);have HD:=zqh (fun w => wdoes n w);rw [decide_eq_true h23] at HD;have HG:=zqh H;clear K h H h23;go_enter Tryz.func39,Tryz.ntmps39;(go_wp2_with (first | (refine wpList_wkvload (by rfl) _ rfl b r _ rfl X.out ?_)));refine HK.out.mono ?_;rintro e w1 ⟨rfl,bb⟩;have X1:=zqh (X.out.keep bb);(go_wp2_with fail);refine (HD.out _).mono ?_;rintro e w2 ⟨rfl,rfl⟩;(go_wp2_with (first | (refine wpList_wkvload (by rfl) _ rfl b r _ rfl X1.out ?_)));refine (HG.out r.v w1 h0.out.sc (h0.out.gl.tab.keep bb) (h0.out.vm.keep bb)).mono ?_;rintro e w3 ⟨i,rfl,hv,hs,hl,b3⟩;have X3:=zqh (X1.out.keep b3);have L3:=zqh hl;(go_wp2_with (first | (refine wpList_wkvstore (by rfl) _ _ rfl b r _ i rfl rfl X3.out ?_)));refine (fail_ok _ _).mono ?_;rintro e w4 ⟨rfl,rfl⟩;(go_wp2_with fail);have h1:=h0.out.keep bb;refine bodyPost_end (results_none rfl _ _ _) rfl ⟨rfl,h1.put b3 hv hs L3.out,(bb.mono (Nat.le_of_lt h0.out.box.lt)).trans (below_put h1.box.lt b3 _)⟩


structure RIs (w : World) (r : RnK) (S : RS) : Prop where
  vm : IsVm w r.v S.L
  sc : Sc r.v S.k
  ip : r.ip = S.ip
  wv : r.wv = S.wv
  d : r.dob = S.d
  fu : r.fu = S.fu
  fr : ∀ g,S.X g → Free r.v g
  xb : ∀ g,S.X g → g < w.heap.size
theorem RIs.keep {w w' : World} {r : RnK} {S : RS} (h : RIs w r S) (b : Below w.heap.size w w') : RIs w' r S:=⟨h.vm.keep b,h.sc,h.ip,h.wv,h.d,h.fu,h.fr,fun g q => Nat.lt_of_lt_of_le (h.xb g q) b.size⟩
theorem WkR.is {w : World} {b : Nat} {S : RS} {e : Value} {r : RnK} (h : WkR w b S e r) : RIs w r S:=⟨h.vm,h.sc,h.ip,h.wv,h.d,h.fu,fun g q => h.fr g (.inl q),fun g q => Nat.lt_trans (h.xb g q) h.box.lt⟩
def DonePost (S : RS) (x : Value) (w : World) (e : Ending) (w' : World) : Prop:=∃ j,e = .returned (.tuple #[rnV j,x]) ∧ RIs w' j S ∧ Below w.heap.size w w'
theorem res_rt {fn : Func} {p t : Tmp} (h : fn.results = #[.cell p 55,.tmp t]) (tmps : Array Value) (w : World) (b : Nat) (r : RnK) (hp : tmps.getD p undef = .pointer (some ⟨b,0,none⟩)) (hb : RBox w b r) :
    (results fn tmps).run Tryz.prog w = .ok (.tuple #[rnV r,tmps.getD t undef]) w:=by
  have hp' : tmps[p]?.getD undef = .pointer (some ⟨b,0,none⟩):=by simpa using hp
  have hl : (loadVar 55 ⟨b,0,none⟩).run Tryz.prog w = .ok (rnV r) w:=run_loadVar_row w b _ _ _ _ _ hb Tryz.underlying55 rfl run_info;simp [results,h,hp',asAddr,hl]
theorem res_rtu {fn : Func} {p t u : Tmp} (h : fn.results = #[.cell p 55,.tmp t,.tmp u]) (tmps : Array Value) (w : World) (b : Nat) (r : RnK) (hp : tmps.getD p undef = .pointer (some ⟨b,0,none⟩)) (hb : RBox w b r) :
    (results fn tmps).run Tryz.prog w = .ok (.tuple #[rnV r,tmps.getD t undef,tmps.getD u undef]) w:=by
  have hp' : tmps[p]?.getD undef = .pointer (some ⟨b,0,none⟩):=by simpa using hp
  have hl : (loadVar 55 ⟨b,0,none⟩).run Tryz.prog w = .ok (rnV r) w:=run_loadVar_row w b _ _ _ _ _ hb Tryz.underlying55 rfl run_info;simp [results,h,hp',asAddr,hl]
theorem wk_lay (w : World) (r : RnK) : Below w.heap.size w ((w.alloc (.cells (wkC rn0 .nilIface) 95)).setRow w.heap.size (wkC r .nilIface)) ∧ WkBox ((w.alloc (.cells (wkC rn0 .nilIface) 95)).setRow w.heap.size (wkC r .nilIface)) w.heap.size r .nilIface :=
  ⟨below_setRow (al_one _ _) (Nat.le_refl _) _,wkrow (wkbox_new w rn0 .nilIface) _ _⟩
theorem wk_of {w w' : World} {b : Nat} {S : RS} {r : RnK} (h : RIs w r S) (g : Glob S.a w) (bb : Below w.heap.size w w') (hb : w.heap.size + 2 ≤ b) (hx : WkBox w' b r .nilIface) : Wk w' b S .nilIface :=
  ⟨r,hx,h.vm.keep bb,h.sc,fun q hq => hq.elim (h.fr q) fun hq => free_of h.vm (by omega),h.ip,h.wv,h.d,h.fu,(by intro i e; cases e),g.keep bb,by have:=g.lo; omega,fun q hq => by have:=h.xb q hq; omega⟩
theorem exec_rl {o : Oper} {a : Act} (x : Operand) (ho : o.op = .load 55 x) (b : Nat) (r : RnK) (hx : a.eval x = .pointer (some ⟨b,0,none⟩)) {u : World} (hb : RBox u b r) : (execOp a.eval o).run Tryz.prog u = .ok (.value (rnV r)) u:=by
  unfold execOp;simp only [ho,hx,Instr.loadAt,Instr.sureAddr,Sem.run_bind,Sem.run_pure,Result.andThen_ok,run_loadVar_row u b _ _ _ _ _ hb Tryz.underlying55 rfl run_info]
theorem step_rst {ops : Array Oper} {o : Oper} {a : Act} {K : Act → World → Prop} {Q : Exit → Act → World → Prop} {E : Prop} {w : World} (hgd : o.guard = none) (x y : Operand) (ho : o.op = .store 55 x y)
    (b : Nat) (j r : RnK) (hx : a.eval x = .pointer (some ⟨b,0,none⟩)) (hy : a.eval y = rnV r) (hb : RBox w b j) (h : K (a.put o.dst undef) (w.setRow b (rnC r))) :
    if Region.wanted o (yielded ops a.tmps) = true then Oper.wp Tryz.prog o a w K Q else E:=by
  have hw : Region.wanted o (yielded ops a.tmps) = true:=by simp [Region.wanted,hgd]
  rw [if_pos hw];exact wp_store_row 55 x y ho b (rnC r) hx hy _ _ hb run_info rfl (run_one9 r) h
theorem two_runs (w : World) (r : RnK) : Below w.heap.size w ((w.alloc (.cells (rnC r) 55)).alloc (.cells (rnC rn0) 55)) ∧ RBox ((w.alloc (.cells (rnC r) 55)).alloc (.cells (rnC rn0) 55)) w.heap.size r ∧ RBox ((w.alloc (.cells (rnC r) 55)).alloc (.cells (rnC rn0) 55)) (w.heap.size + 1) rn0 :=
  ⟨al_two _ _ _,(rbox_new w r).keep (al_one _ _),by have:=rbox_new (w.alloc (.cells (rnC r) 55)) rn0; rwa [show (w.alloc (.cells (rnC r) 55)).heap.size = w.heap.size + 1 from by simp] at this⟩
def NextGo (S : RS) (xt : Int) (S1 : RS) : Prop:=∀ r w,RIs w r S → Calls Tryz.prog 26 #[rnV r] w fun e w' => ∃ j,e = .returned (.tuple #[rnV j,.int .i64 xt,.nilIface]) ∧ RIs w' j S1 ∧ Below w.heap.size w w'
theorem next_do (S : RS) (hd : S.d = true) : NextGo S S.wv { S with wv:=0,d:=false }:=by
  intro r w h;have h0:=zqh h;have hdo : Hid (r.dob = true):=h.d.trans hd;have hwv : Hid (r.wv = S.wv):=h.wv;clear h hd;go_enter Tryz.func26,Tryz.ntmps26;go_upto_region 1 with fail
  generalize hw1 : World.alloc (World.alloc _ _) _ = w1;obtain ⟨kb,kx,ky⟩:=two_runs w r;have B1 : Hid (Below w.heap.size w w1):=by show Below _ _ _; rw [← hw1]; exact kb
  have X1 : Hid (RBox w1 w.heap.size r):=by show RBox _ _ _; rw [← hw1]; exact kx
  have Y1 : Hid (RBox w1 (w.heap.size + 1) rn0):=by show RBox _ _ _; rw [← hw1]; exact ky
  clear hw1 kb kx ky;have p24:=X1.out.c24;have p25:=X1.out.c25;rw [hdo.out] at p25;rw [hwv.out] at p24;have f24:=X1.out.fr 24;have f25:=X1.out.fr 25;go_upto_region 4 with fail
  generalize hw2 : World.setCell (World.setCell _ _ _) _ _ = w2;have X2 : Hid (RBox w2 w.heap.size { r with wv:=0,dob:=false }):=by show RBox _ _ _; rw [← hw2]; exact (X1.out.set_wv 0).set_dob false
  have Y2 : Hid (RBox w2 (w.heap.size + 1) rn0):=by show RBox _ _ _; rw [← hw2]; exact (Y1.out.away (by omega)).away (by omega)
  have B2 : Hid (Below w.heap.size w w2):=by show Below _ _ _; rw [← hw2]; exact (B1.out.setCell (p:=⟨w.heap.size,24,none⟩) (Nat.le_refl _) _).setCell (p:=⟨w.heap.size,25,none⟩) (Nat.le_refl _) _
  clear hw2 p24 p25 f24 f25 X1 Y1 B1;(go_wp2_with (first | (refine wpList_rload (by rfl) _ rfl w.heap.size _ rfl X2.out ?_) | (refine wpList_rstore (by rfl) _ _ rfl (w.heap.size + 1) rn0 { r with wv:=0,dob:=false } rfl rfl Y2.out ?_)));have bz:=below_setRow B2.out (show w.heap.size ≤ w.heap.size + 1 by omega) (rnC { r with wv:=0,dob:=false });exact bodyPost_ret (res_rtu rfl _ _ _ _ rfl (rrow Y2.out _)) rfl ⟨{ r with wv:=0,dob:=false },rfl,⟨h0.out.vm.keep bz,h0.out.sc,h0.out.ip,rfl,rfl,h0.out.fu,h0.out.fr,fun g q => Nat.lt_of_lt_of_le (h0.out.xb g q) bz.size⟩,bz⟩
theorem next_cell (S : RS) (hd : S.d = false) (hc : cellC S.L.m.1.length S.ip = 0) (hm : S.L.m.1.length ≤ 65536) : NextGo S (fetchF S.L.m S.ip) { S with ip:=wrap64 (S.ip + 8) }:=by
  intro r w h;have h0:=zqh h;have hdo : Hid (r.dob = false):=h.d.trans hd;have hip : Hid (r.ip = S.ip):=h.ip;have em:=h.vm.mlen;obtain ⟨V,hV⟩ : ∃ V,fetchF S.L.m S.ip = V:=⟨_,rfl⟩;rw [hV];have HF : Hid (∀ u,Below w.heap.size w u → Calls Tryz.prog 38 #[.agg #[.slice r.v.mA r.v.mn r.v.mc,.slice r.v.pA r.v.pn r.v.pc],.int .i64 S.ip] u fun e w' => e = .returned (.tuple #[.int .i64 V,.int .i64 0]) ∧ Below u.heap.size u w'):=fun u bu => by
    have:=fetch_at r.v.mA r.v.pA r.v.mn r.v.mc r.v.pn r.v.pc S.L.m S.ip u (zqh (h.vm.keep bu).m) (by omega)
    rwa [show cellC r.v.mn S.ip = 0 from by rw [em]; exact hc,hV] at this
  clear h hd hc em hV hm;go_enter Tryz.func26,Tryz.ntmps26;go_upto_region 1 with fail
  generalize hw1 : World.alloc (World.alloc _ _) _ = w1;obtain ⟨kb,kx,ky⟩:=two_runs w r;have B1 : Hid (Below w.heap.size w w1):=by show Below _ _ _; rw [← hw1]; exact kb
  have X1 : Hid (RBox w1 w.heap.size r):=by show RBox _ _ _; rw [← hw1]; exact kx
  have Y1 : Hid (RBox w1 (w.heap.size + 1) rn0):=by show RBox _ _ _; rw [← hw1]; exact ky
  clear hw1 kb kx ky;have p23:=X1.out.c23;have p25:=X1.out.c25;rw [hdo.out] at p25;rw [hip.out] at p23;(go_wp2_with (first | (refine wpList_rbmload (by rfl) _ rfl w.heap.size r rfl X1.out ?_)));refine (HF.out w1 B1.out).mono ?_;rintro e w2 ⟨rfl,bb⟩;have X2:=zqh (X1.out.keep bb);have Y2:=zqh (Y1.out.keep bb);have B2:=zqh (below_then B1.out bb);clear X1 Y1 B1 bb p23 p25;have p23:=X2.out.c23;rw [hip.out] at p23;have f23:=X2.out.fr 23;go_upto_region 9 with fail
  generalize hw3 : World.setCell _ _ _ = w3;have X3 : Hid (RBox w3 w.heap.size { r with ip:=wrap64 (S.ip + 8) }):=by show RBox _ _ _; rw [← hw3]; exact X2.out.set_ip _
  have Y3 : Hid (RBox w3 (w.heap.size + 1) rn0):=by show RBox _ _ _; rw [← hw3]; exact Y2.out.away (by omega)
  have B3 : Hid (Below w.heap.size w w3):=by show Below _ _ _; rw [← hw3]; exact B2.out.setCell (p:=⟨w.heap.size,23,none⟩) (Nat.le_refl _) _
  clear hw3 p23 f23 X2 Y2 B2;(go_wp2_with (first | (refine wpList_rload (by rfl) _ rfl w.heap.size _ rfl X3.out ?_) | (refine wpList_rstore (by rfl) _ _ rfl (w.heap.size + 1) rn0 { r with ip:=wrap64 (S.ip + 8) } rfl rfl Y3.out ?_)));have bz:=below_setRow B3.out (show w.heap.size ≤ w.heap.size + 1 by omega) (rnC { r with ip:=wrap64 (S.ip + 8) });exact bodyPost_ret (res_rtu rfl _ _ _ _ rfl (rrow Y3.out _)) rfl ⟨{ r with ip:=wrap64 (S.ip + 8) },rfl,⟨h0.out.vm.keep bz,h0.out.sc,rfl,h0.out.wv,h0.out.d,h0.out.fu,h0.out.fr,fun g q => Nat.lt_of_lt_of_le (h0.out.xb g q) bz.size⟩,bz⟩
theorem done_ok {S S' : RS} {xt : Int} (H : WGo1 39 xt S S' .nilIface) (r : RnK) (w : World) (g : Glob S.a w) (h : RIs w r S) :
    Calls Tryz.prog 27 #[rnV r,.int .i64 xt] w (DonePost S' .nilIface w):=by
  have HC:=zqh H;have H0:=zqh h;have G0:=zqh g;clear H h g;go_enter Tryz.func27,Tryz.ntmps27;go_upto_region 1 with fail
  generalize hw1 : World.alloc (World.alloc _ _) _ = w1;obtain ⟨kb,kx,ky⟩:=two_runs w r;have B1 : Hid (Below w.heap.size w w1):=by show Below _ _ _; rw [← hw1]; exact kb
  have X1 : Hid (RBox w1 w.heap.size r):=by show RBox _ _ _; rw [← hw1]; exact kx
  have Y1 : Hid (RBox w1 (w.heap.size + 1) rn0):=by show RBox _ _ _; rw [← hw1]; exact ky
  have E0 : Hid (w1.heap.size = w.heap.size + 2):=by show _ = _; rw [← hw1]; simp
  clear hw1 kb kx ky;go_upto_region 2 with (first | (refine wpList_rload (by rfl) _ rfl w.heap.size r rfl X1.out ?_) | (refine wpList_wkstore (by rfl) _ _ rfl w1.heap.size rn0 r .nilIface .nilIface rfl rfl rfl (wkbox_new w1 rn0 .nilIface) ?_))
  generalize hw2 : World.setRow _ _ _ = w2;obtain ⟨kb,kx⟩:=wk_lay w1 r;have B2 : Hid (Below w.heap.size w w2):=by show Below _ _ _; rw [← hw2]; exact below_then B1.out kb
  have X2 : Hid (RBox w2 w.heap.size r):=by show RBox _ _ _; rw [← hw2]; exact X1.out.keep kb
  have Y2 : Hid (RBox w2 (w.heap.size + 1) rn0):=by show RBox _ _ _; rw [← hw2]; exact Y1.out.keep kb
  have Z2 : Hid (WkBox w2 w1.heap.size r .nilIface):=by show WkBox _ _ _ _; rw [← hw2]; exact kx
  have W2:=zqh (wk_of H0.out G0.out B2.out (by have:=Y1.out.lt; omega) Z2.out);have L1:=zqh Y1.out.lt;clear hw2 kb kx X1 Z2;(go_wp2_with fail);refine (HC.out _ _ W2.out).mono ?_;rintro e w3 ⟨rfl,hw,hb⟩;obtain ⟨j,hj⟩:=hw;have J3:=zqh hj;have Y3 : Hid (RBox w3 (w.heap.size + 1) rn0):=(hb.block _ L1.out).trans Y2.out;have B3:=zqh (B2.out.trans (hb.mono B1.out.size));have p27:=hj.box.c27;have E1 : Hid (w1.heap.size = w.heap.size + 2):=E0;clear hj hb W2 X2 Y2 B2;(go_wp2_with (first | (refine wpList_wkrload (by rfl) _ rfl w1.heap.size j .nilIface rfl J3.out.box ?_) | (refine wpList_rstore (by rfl) _ _ rfl (w.heap.size + 1) rn0 j rfl rfl Y3.out ?_)));have bz:=below_setRow B3.out (show w.heap.size ≤ w.heap.size + 1 by omega) (rnC j);refine bodyPost_ret (res_rt rfl _ _ _ _ rfl (rrow Y3.out _)) rfl ⟨j,rfl,?_,bz⟩;have hi:=J3.out;exact ⟨isvm_apart hi.vm (hi.fr (w.heap.size + 1) (.inr (by have:=E1.out; omega))) (ex_row _ _ _) (rbox_nou8 Y3.out),hi.sc,hi.ip,hi.wv,hi.d,hi.fu,hi.is.fr,fun g q => by rw [size_setRow]; exact hi.is.xb g q⟩
theorem done_err {S S' : RS} {xt : Int} {T : TypeId} {v : Value} (H : WGo1 39 xt S S' (.iface T v)) (r : RnK) (w : World) (g : Glob S.a w) (h : RIs w r S) :
    Calls Tryz.prog 27 #[rnV r,.int .i64 xt] w (DonePost S (.iface 93 (.agg #[.int .i64 xt,.iface T v])) w):=by
  have HC:=zqh H;have H0:=zqh h;have G0:=zqh g;clear H h g;go_enter Tryz.func27,Tryz.ntmps27;go_upto_region 1 with fail
  generalize hw1 : World.alloc (World.alloc _ _) _ = w1;obtain ⟨kb,kx,ky⟩:=two_runs w r;have B1 : Hid (Below w.heap.size w w1):=by show Below _ _ _; rw [← hw1]; exact kb
  have X1 : Hid (RBox w1 w.heap.size r):=by show RBox _ _ _; rw [← hw1]; exact kx
  have Y1 : Hid (RBox w1 (w.heap.size + 1) rn0):=by show RBox _ _ _; rw [← hw1]; exact ky
  have E0 : Hid (w1.heap.size = w.heap.size + 2):=by show _ = _; rw [← hw1]; simp
  clear hw1 kb kx ky;go_upto_region 2 with (first | (refine wpList_rload (by rfl) _ rfl w.heap.size r rfl X1.out ?_) | (refine wpList_wkstore (by rfl) _ _ rfl w1.heap.size rn0 r .nilIface .nilIface rfl rfl rfl (wkbox_new w1 rn0 .nilIface) ?_))
  generalize hw2 : World.setRow _ _ _ = w2;obtain ⟨kb,kx⟩:=wk_lay w1 r;have B2 : Hid (Below w.heap.size w w2):=by show Below _ _ _; rw [← hw2]; exact below_then B1.out kb
  have X2 : Hid (RBox w2 w.heap.size r):=by show RBox _ _ _; rw [← hw2]; exact X1.out.keep kb
  have Y2 : Hid (RBox w2 (w.heap.size + 1) rn0):=by show RBox _ _ _; rw [← hw2]; exact Y1.out.keep kb
  have Z2 : Hid (WkBox w2 w1.heap.size r .nilIface):=by show WkBox _ _ _ _; rw [← hw2]; exact kx
  have W2:=zqh (wk_of H0.out G0.out B2.out (by have:=Y1.out.lt; omega) Z2.out);have L0:=zqh X1.out.lt;have L1:=zqh Y1.out.lt;clear hw2 kb kx X1 Z2;(go_wp2_with fail);refine (HC.out _ _ W2.out).mono ?_;rintro e w3 ⟨rfl,hw,hb⟩;have X3 : Hid (RBox w3 w.heap.size r):=(hb.block _ L0.out).trans X2.out;have Y3 : Hid (RBox w3 (w.heap.size + 1) rn0):=(hb.block _ L1.out).trans Y2.out;have B3:=zqh (B2.out.trans (hb.mono B1.out.size));have p27:=hw.ce;clear hw hb W2 X2 Y2 B2;go_upto_region 4 with fail
  refine wp_region_held_drew (S:=fun a => RBox a w.heap.size r ∧ a.cell? ⟨w1.heap.size,27,none⟩ = some (.iface T v) ∧ (∃ j0,RBox a (w.heap.size + 1) j0) ∧ Below w.heap.size w a) (by kernel_rfl) ?_ (fun hHeld => ?_)
  · exact ⟨X3.out,p27,⟨_,Y3.out⟩,B3.out.drew⟩
  clear X3 Y3 B3 p27;refine zqt (i:=0) (v:=rnV r) ?y0 ?r0
  case y0 => exact fun u hSu => exec_rl _ rfl w.heap.size r rfl hSu.1
  (try simp only [zq,Act.put]);refine zqa 1 ?_;refine zqa 2 ?_;refine zqt (i:=3) (v:=?v3) ?y3 ?r3
  case y3 => (intro w hSw; (try dsimp only at hSw); have hc:=hSw.2.1; go_simp; (try with_reducible rfl))
  (try simp only [zq,Act.put]);refine zqa 4 ?_;refine zqa 5 ?_;refine zqr 6 fun K hK => ?_
  obtain ⟨j7,hz⟩:=hHeld.2.2.1;refine step_rst rfl _ _ rfl (w.heap.size + 1) j7 r rfl rfl hz ?_;have bz:=below_setRow hHeld.2.2.2 (show w.heap.size ≤ w.heap.size + 1 by omega) (rnC r);have hr2:=rrow hz r;refine hK.out _ _ ⟨hHeld.1.away_row (by omega) _,?_,⟨r,hr2⟩,bz⟩ (fun hHeld2 => ?_)
  · have:=E0.out
    unfold World.cell?;rw [setRow_other _ _ _ _ (show w1.heap.size ≠ w.heap.size + 1 by omega)];exact hHeld.2.1
  clear hK K hHeld;(try simp only [zq,Act.put]);refine zqa 7 ?_;refine wpAnyH_done (by kernel_rfl) ?_ _;(go_wp2_with fail);exact bodyPost_ret (res_rt rfl _ _ _ _ rfl hr2) rfl ⟨r,rfl,H0.out.keep bz,bz⟩
end Go.Proofs.YtcmldhjicjmmgaaGreatDoor
