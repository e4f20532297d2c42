/- Part 44. -/
import Derived.Test.YtcmldhjicjmmgaaGreatDoorXlAZ
set_option linter.unusedVariables false
set_option linter.unusedSimpArgs false
set_option maxRecDepth 100000
set_option maxHeartbeats 4000000

namespace Go.Proofs.YtcmldhjicjmmgaaGreatDoor
open Go.RowKit


theorem wfail_code (S : RS) (c : Int) (hn : (c == 0) = false) : WGo1 59 c S S (thrV c):=by
  intro b w H;have W0:=zqh H;have B0:=zqh (Below.refl b w);obtain ⟨r9,h9⟩:=H;have PE:=h9.box.c27;have FE:=h9.box.fr 27;clear h9;have hn2 : (c != 0) = true:=by simpa using hn
  go_enter Tryz.func59,Tryz.ntmps59;go_wp2;refine bodyPost_end (results_none rfl _ _ _) rfl ?_;exact ⟨rfl,W0.out.set_e _ (by intro i h; cases h),B0.out.setCell (p:=⟨b,27,none⟩) (Nat.le_refl _) _⟩
theorem state_neg (S : RS) (s n : Int) (c1 : cellC S.L.m.1.length 1384 = 0) (c2 : cellC S.L.m.1.length 1392 = 0) (hm : S.L.m.1.length ≤ 65536) (h1 : fetchF S.L.m 1384 = s) (h2 : fetchF S.L.m 1392 = n) (hs : s < 0) : WGo1 80 (1384) S (S) (thrV (-24)):=by
  intro b w H;have W0:=zqh H;have B0:=zqh (Below.refl b w);have P0:=H.cip;have F0:=H.fr 23;have H1 : Hid (VGo1 79 (1384) (.int .i64 (s)) S S):=by show VGo1 _ _ _ _ _; rw [← h1]; exact wfetch_any S _ c1 hm
  have H2 : Hid (VGo1 79 (1392) (.int .i64 (n)) S S):=by show VGo1 _ _ _ _ _; rw [← h2]; exact wfetch_any S _ c2 hm
  clear h1 h2 c1 c2 hm;clear H;go_enter Tryz.func80,Tryz.ntmps80;(go_wp2_with fail);refine ((H1.out) b _ W0.out).mono ?_;rintro e w1 ⟨rfl,hw,hb⟩;have W1:=zqh hw;have B1:=zqh (B0.out.trans hb);have P1:=hw.cip;have F1:=hw.fr 23;clear W0 B0 P0 F0 hw hb;(go_wp2_with fail);refine ((H2.out) b _ W1.out).mono ?_;rintro e w2 ⟨rfl,hw,hb⟩;have W2:=zqh hw;have B2:=zqh (B1.out.trans hb);have P2:=hw.cip;have F2:=hw.fr 23;clear W1 B1 P1 F1 hw hb;(go_wp2_with fail);refine ((wfail_code S (-24) (by decide)) b _ W2.out).mono ?_;rintro e w3 ⟨rfl,hw,hb⟩;have W3:=zqh hw;have B3:=zqh (B2.out.trans hb);have P3:=hw.cip;have F3:=hw.fr 23;clear W2 B2 P2 F2 hw hb;(go_wp2_with fail);refine bodyPost_ret (results_none rfl _ _ _) rfl ?_;exact ⟨rfl,W3.out,B3.out⟩
theorem state_far (S : RS) (s n : Int) (c1 : cellC S.L.m.1.length 1384 = 0) (c2 : cellC S.L.m.1.length 1392 = 0) (hm : S.L.m.1.length ≤ 65536) (h1 : fetchF S.L.m 1384 = s) (h2 : fetchF S.L.m 1392 = n) (hs : ¬ s < 0) (hg : n ≤ s) : WGo1 80 (1384) S (S) (thrV (-24)):=by
  intro b w H;have W0:=zqh H;have B0:=zqh (Below.refl b w);have P0:=H.cip;have F0:=H.fr 23;have H1 : Hid (VGo1 79 (1384) (.int .i64 (s)) S S):=by show VGo1 _ _ _ _ _; rw [← h1]; exact wfetch_any S _ c1 hm
  have H2 : Hid (VGo1 79 (1392) (.int .i64 (n)) S S):=by show VGo1 _ _ _ _ _; rw [← h2]; exact wfetch_any S _ c2 hm
  have g0 : decide (s < 0) = false:=by simpa using hs
  have g1 : decide (n ≤ s) = true:=by simpa using hg
  clear h1 h2 c1 c2 hm;clear H;go_enter Tryz.func80,Tryz.ntmps80;(go_wp2_with fail);refine ((H1.out) b _ W0.out).mono ?_;rintro e w1 ⟨rfl,hw,hb⟩;have W1:=zqh hw;have B1:=zqh (B0.out.trans hb);have P1:=hw.cip;have F1:=hw.fr 23;clear W0 B0 P0 F0 hw hb;(go_wp2_with fail);refine ((H2.out) b _ W1.out).mono ?_;rintro e w2 ⟨rfl,hw,hb⟩;have W2:=zqh hw;have B2:=zqh (B1.out.trans hb);have P2:=hw.cip;have F2:=hw.fr 23;clear W1 B1 P1 F1 hw hb;(go_wp2_with fail);refine ((wfail_code S (-24) (by decide)) b _ W2.out).mono ?_;rintro e w3 ⟨rfl,hw,hb⟩;have W3:=zqh hw;have B3:=zqh (B2.out.trans hb);have P3:=hw.cip;have F3:=hw.fr 23;clear W2 B2 P2 F2 hw hb;(go_wp2_with fail);refine bodyPost_ret (results_none rfl _ _ _) rfl ?_;exact ⟨rfl,W3.out,B3.out⟩
theorem state_none (S : RS) (i : Nat) (n : Int) (c1 : cellC S.L.m.1.length 1384 = 0) (c2 : cellC S.L.m.1.length 1392 = 0) (hm : S.L.m.1.length ≤ 65536) (c3 : cellC S.L.m.1.length (1400 + 8 * (i : Int)) = 0) (h1 : fetchF S.L.m 1384 = (i : Int)) (h2 : fetchF S.L.m 1392 = n) (h3 : fetchF S.L.m (1400 + 8 * (i : Int)) = 0) (hi : i < 9) (hg : (i : Int) < n) : WGo1 80 (1384) S (S) .nilIface:=by
  intro b w H;have W0:=zqh H;have B0:=zqh (Below.refl b w);have P0:=H.cip;have F0:=H.fr 23;have H1 : Hid (VGo1 79 (1384) (.int .i64 ((i : Int))) S S):=by show VGo1 _ _ _ _ _; rw [← h1]; exact wfetch_any S _ c1 hm
  have H2 : Hid (VGo1 79 (1392) (.int .i64 (n)) S S):=by show VGo1 _ _ _ _ _; rw [← h2]; exact wfetch_any S _ c2 hm
  have H3 : Hid (VGo1 79 (1400 + 8 * (i : Int)) (.int .i64 (0)) S S):=by show VGo1 _ _ _ _ _; rw [← h3]; exact wfetch_any S _ c3 hm
  have g0 : decide ((i : Int) < 0) = false:=by simp
  have g1 : decide (n ≤ (i : Int)) = false:=by simp; omega
  clear h1 h2 c1 c2 h3 c3 hm;clear H;go_enter Tryz.func80,Tryz.ntmps80;(go_wp2_with fail);refine ((H1.out) b _ W0.out).mono ?_;rintro e w1 ⟨rfl,hw,hb⟩;have W1:=zqh hw;have B1:=zqh (B0.out.trans hb);have P1:=hw.cip;have F1:=hw.fr 23;clear W0 B0 P0 F0 hw hb;(go_wp2_with fail);refine ((H2.out) b _ W1.out).mono ?_;rintro e w2 ⟨rfl,hw,hb⟩;have W2:=zqh hw;have B2:=zqh (B1.out.trans hb);have P2:=hw.cip;have F2:=hw.fr 23;clear W1 B1 P1 F1 hw hb;(go_wp2_with fail);refine ((H3.out) b _ W2.out).mono ?_;rintro e w3 ⟨rfl,hw,hb⟩;have W3:=zqh hw;have B3:=zqh (B2.out.trans hb);have P3:=hw.cip;have F3:=hw.fr 23;clear W2 B2 P2 F2 hw hb;(go_wp2_with fail);refine bodyPost_end (results_none rfl _ _ _) rfl ?_;exact ⟨rfl,W3.out,B3.out⟩
theorem state_goes (S : RS) (i : Nat) (n x : Int) (c1 : cellC S.L.m.1.length 1384 = 0) (c2 : cellC S.L.m.1.length 1392 = 0) (hm : S.L.m.1.length ≤ 65536) (c3 : cellC S.L.m.1.length (1400 + 8 * (i : Int)) = 0) (h1 : fetchF S.L.m 1384 = (i : Int)) (h2 : fetchF S.L.m 1392 = n) (h3 : fetchF S.L.m (1400 + 8 * (i : Int)) = x) (hi : i < 9) (hg : (i : Int) < n) (hx : (x == 0) = false) : WGo1 80 (1384) S ({ S with wv:=x,d:=true }) .nilIface:=by
  intro b w H;have W0:=zqh H;have B0:=zqh (Below.refl b w);have P0:=H.cip;have F0:=H.fr 23;have H1 : Hid (VGo1 79 (1384) (.int .i64 ((i : Int))) S S):=by show VGo1 _ _ _ _ _; rw [← h1]; exact wfetch_any S _ c1 hm
  have H2 : Hid (VGo1 79 (1392) (.int .i64 (n)) S S):=by show VGo1 _ _ _ _ _; rw [← h2]; exact wfetch_any S _ c2 hm
  have H3 : Hid (VGo1 79 (1400 + 8 * (i : Int)) (.int .i64 (x)) S S):=by show VGo1 _ _ _ _ _; rw [← h3]; exact wfetch_any S _ c3 hm
  have g0 : decide ((i : Int) < 0) = false:=by simp
  have g1 : decide (n ≤ (i : Int)) = false:=by simp; omega
  clear h1 h2 c1 c2 h3 c3 hm;clear H;go_enter Tryz.func80,Tryz.ntmps80;(go_wp2_with fail);refine ((H1.out) b _ W0.out).mono ?_;rintro e w1 ⟨rfl,hw,hb⟩;have W1:=zqh hw;have B1:=zqh (B0.out.trans hb);have P1:=hw.cip;have F1:=hw.fr 23;clear W0 B0 P0 F0 hw hb;(go_wp2_with fail);refine ((H2.out) b _ W1.out).mono ?_;rintro e w2 ⟨rfl,hw,hb⟩;have W2:=zqh hw;have B2:=zqh (B1.out.trans hb);have P2:=hw.cip;have F2:=hw.fr 23;clear W1 B1 P1 F1 hw hb;(go_wp2_with fail);refine ((H3.out) b _ W2.out).mono ?_;rintro e w3 ⟨rfl,hw,hb⟩;have W3:=zqh hw;have B3:=zqh (B2.out.trans hb);have P3:=hw.cip;have F3:=hw.fr 23;clear W2 B2 P2 F2 hw hb;(go_wp2_with fail);refine ((wthen_any S x) b _ W3.out).mono ?_;rintro e w4 ⟨rfl,hw,hb⟩;have W4:=zqh hw;have B4:=zqh (B3.out.trans hb);have P4:=hw.cip;have F4:=hw.fr 23;clear W3 B3 P3 F3 hw hb;(go_wp2_with fail);refine bodyPost_end (results_none rfl _ _ _) rfl ?_;exact ⟨rfl,W4.out,B4.out⟩
theorem made_mach (S S2 : RS) (e : Value) (H9 : WGo1 80 1384 S S2 e) : WGo2 62 (260) (1368) S (S2) e:=by
  intro b w H;have W0:=zqh H;have B0:=zqh (Below.refl b w);have P0:=H.cip;have F0:=H.fr 23;have H8:=zqh H9;clear H9;clear H;go_enter Tryz.func62,Tryz.ntmps62;(go_wp2_with fail);refine ((H8.out) b _ W0.out).mono ?_;rintro e w1 ⟨rfl,hw,hb⟩;have W1:=zqh hw;have B1:=zqh (B0.out.trans hb);have P1:=hw.cip;have F1:=hw.fr 23;clear W0 B0 P0 F0 hw hb;(go_wp2_with fail);refine bodyPost_end (results_none rfl _ _ _) rfl ?_;exact ⟨rfl,W1.out,B1.out⟩


abbrev fr3 (d r i : Int) : Array Value:=#[.int .i64 d,.int .i64 r,.int .i64 i]
abbrev fr3V (d r i : Int) : Value:=.agg #[.int .i64 d,.int .i64 r,.int .i64 i]
def FBox (w : World) (b : Nat) (d r i : Int) : Prop:=w.heap[b]? = some (.cells #[.int .i64 d,.int .i64 r,.int .i64 i] 102)
theorem FBox.keep {w w' : World} {b : Nat} {d r i : Int} (h : FBox w b d r i) (x : Below w.heap.size w w') : FBox w' b d r i:=(x.block _ (Array.getElem?_eq_some_iff.1 h).1).trans h
theorem fbox_new (w : World) (d r i : Int) : FBox (w.alloc (.cells #[.int .i64 d,.int .i64 r,.int .i64 i] 102)) w.heap.size d r i:=heap_alloc_new w _
theorem fr3_info : (Tryz.prog.info? 102).map (·.size) = some 3:=by kernel_rfl
theorem fbox_row {w : World} {b : Nat} {d r i : Int} (h : FBox w b d r i) (d' r' i' : Int) : FBox (w.setRow b (fr3 d' r' i')) b d' r' i':=setRow_heap w b _ _ _ _ h
theorem fbox_far {w : World} {b g : Nat} {d r i : Int} (h : FBox w b d r i) (hne : b ≠ g) (cs : Array Value) : FBox (w.setRow g cs) b d r i:=by unfold FBox at h ⊢; rw [setRow_other w g b cs hne]; exact h
theorem step_fst {ops : Array Oper} {o : Oper} {a : Act} {K : Act → World → Prop} {Q : Exit → Act → World → Prop} {E : Prop} {w : World} (hgd : o.guard = none) (x y : Operand) (ho : o.op = .store 102 x y)
    (b : Nat) (d0 r0 i0 d r i : Int) (hx : a.eval x = .pointer (some ⟨b,0,none⟩)) (hy : a.eval y = fr3V d r i) (hb : FBox w b d0 r0 i0) (h : K (a.put o.dst undef) (w.setRow b (fr3 d r i))) :
    if Region.wanted o (yielded ops a.tmps) = true then Oper.wp Tryz.prog o a w K Q else E:=by
  have hw : Region.wanted o (yielded ops a.tmps) = true:=by simp [Region.wanted,hgd]
  rw [if_pos hw];exact wp_store_row 102 x y ho b (fr3 d r i) hx hy _ _ hb fr3_info rfl (by simp [Value.oneCell']) h
theorem wpList_fst {ops : Array Oper} {rest : List Oper} {o : Oper} {a : Act} {Q : Exit → Act → World → Prop} {w : World} (hw : Region.wanted o (yielded ops a.tmps) = true) (x y : Operand) (ho : o.op = .store 102 x y)
    (b : Nat) (d0 r0 i0 d r i : Int) (hx : a.eval x = .pointer (some ⟨b,0,none⟩)) (hy : a.eval y = fr3V d r i) (hb : FBox w b d0 r0 i0) (h : wpList Tryz.prog ops Q rest (a.put o.dst undef) (w.setRow b (fr3 d r i))) : wpList Tryz.prog ops Q (o :: rest) a w :=
  wpList_step fun K hK => by
    rw [if_pos hw];exact wp_store_row 102 x y ho b (fr3 d r i) hx hy _ _ hb fr3_info rfl (by simp [Value.oneCell']) (hK _ _ h)
theorem res_fvt {fn : Func} {p q t : Tmp} (h : fn.results = #[.cell p 102,.cell q 37,.tmp t]) (tmps : Array Value) (w : World) (b c : Nat) (d r i : Int) (k : VmK) (hp : tmps.getD p undef = .pointer (some ⟨b,0,none⟩)) (hq : tmps.getD q undef = .pointer (some ⟨c,0,none⟩)) (hb : FBox w b d r i) (hc : VBox w c k) :
    (results fn tmps).run Tryz.prog w = .ok (.tuple #[fr3V d r i,vmV k,tmps.getD t undef]) w:=by
  have hp' : tmps[p]?.getD undef = .pointer (some ⟨b,0,none⟩):=by simpa using hp
  have hq' : tmps[q]?.getD undef = .pointer (some ⟨c,0,none⟩):=by simpa using hq
  have hl : (loadVar 102 ⟨b,0,none⟩).run Tryz.prog w = .ok (fr3V d r i) w:=run_loadVar_row w b _ _ _ _ _ hb Tryz.underlying102 rfl fr3_info;simp [results,h,hp',hq',asAddr,vm_load hc,hl]
abbrev popW (w : World) (k : VmK) : World:=((w.alloc (.cells (vmC k) 37)).alloc (.cells #[.int .i64 0,.int .i64 0,.int .i64 0] 102)).alloc (.cells (vmC vm0) 37)
theorem pop_boxes (w : World) (k : VmK) : Below w.heap.size w (popW w k) ∧ VBox (popW w k) w.heap.size k ∧ FBox (popW w k) (w.heap.size + 1) 0 0 0 ∧ VBox (popW w k) (w.heap.size + 2) vm0:=by
  have b1:=al_one w (.cells (vmC k) 37);have b2:=al_one (w.alloc (.cells (vmC k) 37)) (.cells #[.int .i64 0,.int .i64 0,.int .i64 0] 102);have b3:=al_one ((w.alloc (.cells (vmC k) 37)).alloc (.cells #[.int .i64 0,.int .i64 0,.int .i64 0] 102)) (.cells (vmC vm0) 37);have x1 : VBox (w.alloc (.cells (vmC k) 37)) w.heap.size k:=heap_alloc_new w _;have x2:=fbox_new (w.alloc (.cells (vmC k) 37)) 0 0 0;have x3 : VBox (popW w k) ((w.alloc (.cells (vmC k) 37)).alloc (.cells #[.int .i64 0,.int .i64 0,.int .i64 0] 102)).heap.size vm0:=heap_alloc_new _ _;rw [show ((w.alloc (.cells (vmC k) 37)).alloc (.cells #[.int .i64 0,.int .i64 0,.int .i64 0] 102)).heap.size = w.heap.size + 2 from by simp] at x3;rw [show (w.alloc (.cells (vmC k) 37)).heap.size = w.heap.size + 1 from by simp] at x2;exact ⟨below_then (below_then b1 b2) b3,(x1.keep b2).keep b3,x2.keep b3,x3⟩
theorem popf_none (k : VmK) (w : World) (hf : k.fn = 0) : Calls Tryz.prog 42 #[vmV k] w fun e w' => e = .returned (.tuple #[fr3V 0 0 0,vmV k,.int .i64 (-6)]) ∧ Below w.heap.size w w':=by
  have HF:=zqh hf;clear hf;go_enter Tryz.func42,Tryz.ntmps42;go_upto_region 1 with fail
  generalize hw1 : World.alloc (World.alloc (World.alloc _ _) _) _ = w1;obtain ⟨kb,kx,ky,kz⟩:=pop_boxes w k;have B1 : Hid (Below w.heap.size w w1):=by show Below _ _ _; rw [← hw1]; exact kb
  have X1 : Hid (VBox w1 w.heap.size k):=by show VBox _ _ _; rw [← hw1]; exact kx
  have Y1 : Hid (FBox w1 (w.heap.size + 1) 0 0 0):=by show FBox _ _ _ _ _; rw [← hw1]; exact ky
  have Z1 : Hid (VBox w1 (w.heap.size + 2) vm0):=by show VBox _ _ _; rw [← hw1]; exact kz
  clear hw1 kb kx ky kz;have p10:=X1.out.use.2.2.2.2.2.2.2.2.2.2.1;rw [HF.out] at p10;go_upto_region 3 with fail
  clear p10;refine wp_region_held_drew (S:=fun a => VBox a w.heap.size k ∧ (∃ d r i,FBox a (w.heap.size + 1) d r i) ∧ (∃ j0,VBox a (w.heap.size + 2) j0) ∧ Below w.heap.size w a) (by kernel_rfl) ?_ (fun hHeld => ?_)
  · exact ⟨X1.out,⟨_,_,_,Y1.out⟩,⟨_,Z1.out⟩,B1.out.drew⟩
  clear X1 Y1 Z1 B1;refine zqt (i:=0) (v:=fr3V 0 0 0) ?y0 ?r0
  case y0 => (intro w hSw; (try dsimp only at hSw); go_simp; (try with_reducible rfl))
  (try simp only [zq,Act.put]);refine zqt (i:=1) (v:=vmV k) ?y1 ?r1
  case y1 => exact fun u hSu => exec_vl _ rfl w.heap.size k rfl hSu.1
  (try simp only [zq,Act.put]);refine zqr 2 fun K hK => ?_
  obtain ⟨d9,r9,i9,hy⟩:=hHeld.2.1;refine step_fst rfl _ _ rfl (w.heap.size + 1) d9 r9 i9 0 0 0 rfl rfl hy ?_;have hy2:=zqh (fbox_row hy 0 0 0);obtain ⟨j9,hz⟩:=hHeld.2.2.1;refine hK.out _ _ ⟨vrow_fr hHeld.1 (by omega) _,⟨_,_,_,hy2.out⟩,⟨j9,vrow_fr hz (by omega) _⟩,below_setRow hHeld.2.2.2 (by omega) _⟩ (fun hHeld2 => ?_);clear hK K hHeld hz hy;(try simp only [zq,Act.put]);refine zqr 3 fun K hK => ?_
  obtain ⟨j8,hz⟩:=hHeld2.2.2.1;refine step_vst rfl _ _ rfl (w.heap.size + 2) j8 k rfl rfl hz ?_;have hz2:=zqh (vrow hz k);have hy3:=zqh (fbox_far hy2.out (show w.heap.size + 1 ≠ w.heap.size + 2 by omega) (vmC k));have bz:=zqh (below_setRow hHeld2.2.2.2 (show w.heap.size ≤ w.heap.size + 2 by omega) (vmC k));refine hK.out _ _ ⟨vrow_fr hHeld2.1 (by omega) _,⟨_,_,_,hy3.out⟩,⟨k,hz2.out⟩,bz.out⟩ (fun hHeld3 => ?_);clear hK K hHeld2 hz hy2;(try simp only [zq,Act.put]);refine zqa 4 ?_;refine wpAnyH_done (by kernel_rfl) ?_ _;(go_wp2_with fail);exact bodyPost_ret (res_fvt rfl _ _ _ _ 0 0 0 k rfl rfl hy3.out hz2.out) rfl ⟨rfl,bz.out⟩
theorem two_fv (w : World) (k : VmK) : FBox ((w.alloc (.cells #[.int .i64 0,.int .i64 0,.int .i64 0] 102)).alloc (.cells (vmC vm0) 37)) w.heap.size 0 0 0 ∧ VBox (((w.alloc (.cells #[.int .i64 0,.int .i64 0,.int .i64 0] 102)).alloc (.cells (vmC vm0) 37)).setRow w.heap.size (fr3 0 0 0)) (w.heap.size + 1) vm0 ∧ Below w.heap.size w ((((w.alloc (.cells #[.int .i64 0,.int .i64 0,.int .i64 0] 102)).alloc (.cells (vmC vm0) 37)).setRow w.heap.size (fr3 0 0 0)).setRow (w.heap.size + 1) (vmC k)):=by
  have x : VBox ((w.alloc (.cells #[.int .i64 0,.int .i64 0,.int .i64 0] 102)).alloc (.cells (vmC vm0) 37)) (w.heap.size + 1) vm0:=by
    have:=heap_alloc_new (w.alloc (.cells #[.int .i64 0,.int .i64 0,.int .i64 0] 102)) (.cells (vmC vm0) 37)
    rwa [show (w.alloc (.cells #[.int .i64 0,.int .i64 0,.int .i64 0] 102)).heap.size = w.heap.size + 1 from by simp] at this
  exact ⟨(fbox_new w 0 0 0).keep (al_one _ _),vrow_fr x (by omega) _,below_setRow (below_setRow (al_two _ _ _) (Nat.le_refl _) _) (by omega) _⟩
theorem handed_none (S : RS) (c : Int) (hf : S.L.f = []) (r : RnK) (w : World) (h : RIs w r S) : Calls Tryz.prog 29 #[rnV r,.int .i64 c] w fun e w' => ∃ j,e = .returned (.tuple #[rnV j,.bool false,.int .i64 c]) ∧ RIs w' j { S with wv:=0,d:=false } ∧ Below w.heap.size w w':=by
  have H0:=zqh h;have HF : Hid (r.v.fn = 0):=by
    have:=h.vm.f.len;rw [hf] at this;exact this.symm
  clear h hf;go_enter Tryz.func29,Tryz.ntmps29;go_upto_region 1 with fail
  generalize hw1 : World.alloc (World.alloc _ _) _ = w1;obtain ⟨kb,kx,ky⟩:=two_runs w r;have B1 : Hid (Below w.heap.size w w1):=by show Below _ _ _; rw [← hw1]; exact kb
  have X1 : Hid (RBox w1 w.heap.size r):=by show RBox _ _ _; rw [← hw1]; exact kx
  have Y1 : Hid (RBox w1 (w.heap.size + 1) rn0):=by show RBox _ _ _; rw [← hw1]; exact ky
  clear hw1 kb kx ky;have p24:=X1.out.c24;have p25:=X1.out.c25;have f24:=X1.out.fr 24;have f25:=X1.out.fr 25;go_upto_region 2 with fail
  generalize hw2 : World.setCell (World.setCell _ _ _) _ _ = w2;have X2 : Hid (RBox w2 w.heap.size { r with wv:=0,dob:=false }):=by show RBox _ _ _; rw [← hw2]; exact (X1.out.set_wv 0).set_dob false
  have Y2 : Hid (RBox w2 (w.heap.size + 1) rn0):=by show RBox _ _ _; rw [← hw2]; exact (Y1.out.away (by omega)).away (by omega)
  have B2 : Hid (Below w.heap.size w w2):=by show Below _ _ _; rw [← hw2]; exact (B1.out.setCell (p:=⟨w.heap.size,24,none⟩) (Nat.le_refl _) _).setCell (p:=⟨w.heap.size,25,none⟩) (Nat.le_refl _) _
  clear hw2 p24 p25 f24 f25 X1 Y1 B1;(go_wp2_with (first | (refine wpList_rbvload (by rfl) _ rfl w.heap.size _ rfl X2.out ?_)));refine (popf_none r.v w2 HF.out).mono ?_;rintro e w3 ⟨rfl,bb⟩;have X3:=zqh (X2.out.keep bb);have Y3:=zqh (Y2.out.keep bb);have B3:=zqh (below_then B2.out bb);clear X2 Y2 B2 bb;obtain ⟨k1,k2,k3⟩:=two_fv w3 r.v;have K1:=zqh k1;have K2:=zqh k2;clear k1 k2;go_upto_region 4 with (first | (refine wpList_fst (by rfl) _ _ rfl w3.heap.size 0 0 0 0 0 0 rfl rfl K1.out ?_) | (refine wpList_vstore (by rfl) _ _ rfl (w3.heap.size + 1) vm0 r.v rfl rfl K2.out ?_))
  generalize hw4 : World.setRow (World.setRow _ _ _) _ _ = w4;have bb : Below w3.heap.size w3 w4:=by rw [← hw4]; exact k3
  have X4:=zqh (X3.out.keep bb);have Y4:=zqh (Y3.out.keep bb);have B4:=zqh (below_then B3.out bb);clear hw4 k3 bb X3 Y3 B3 K1 K2;(go_wp2_with (first | (refine wpList_rload (by rfl) _ rfl w.heap.size _ rfl X4.out ?_) | (refine wpList_rstore (by rfl) _ _ rfl (w.heap.size + 1) rn0 { r with wv:=0,dob:=false } rfl rfl Y4.out ?_)));have bz:=below_setRow B4.out (show w.heap.size ≤ w.heap.size + 1 by omega) (rnC { r with wv:=0,dob:=false });exact bodyPost_ret (res_rtu rfl _ _ _ _ rfl (rrow Y4.out _)) rfl ⟨{ r with wv:=0,dob:=false },rfl,⟨H0.out.vm.keep bz,H0.out.sc,H0.out.ip,rfl,rfl,H0.out.fu,H0.out.fr,fun g q => Nat.lt_of_lt_of_le (H0.out.xb g q) bz.size⟩,bz⟩
theorem step_code {S S1 S2 : RS} {xt c : Int} (hf : 1 ≤ S.fu) (hg : S.fu ≤ 1000000000) (ha : S1.a = S.a) (hn : S1.L.f = []) (HN : Nexts S xt S1) (HD : Lets xt S1 S2 (thrV c)) : StepTo S { S1 with wv:=0,d:=false } false c:=by
  intro X r w g h;have H0:=zqh h;have G0:=zqh g;have hfu : Hid (r.fu = S.fu):=h.fu;have HW : Hid (wrap64 (S.fu - 1) = S.fu - 1):=by show _ = _; unfold wrap64; omega
  have N0:=zqh HN;have D0:=zqh HD;have A0:=zqh ha;have E0:=zqh hn;have g1 : decide (S.fu < 1) = false:=by simp; omega
  clear h g HN HD hg hf ha hn;go_enter Tryz.func17,Tryz.ntmps17;go_upto_region 1 with fail
  generalize hw1 : World.alloc (World.alloc _ _) _ = w1;obtain ⟨kb,kx,ky⟩:=two_runs w r;have B1 : Hid (Below w.heap.size w w1):=by show Below _ _ _; rw [← hw1]; exact kb
  have X1 : Hid (RBox w1 w.heap.size r):=by show RBox _ _ _; rw [← hw1]; exact kx
  have Y1 : Hid (RBox w1 (w.heap.size + 1) rn0):=by show RBox _ _ _; rw [← hw1]; exact ky
  clear hw1 kb kx ky;have p26:=X1.out.c26;rw [hfu.out] at p26;have f26:=X1.out.fr 26;go_upto_region 4 with fail
  generalize hw2 : World.setCell _ _ _ = w2;have X2 : Hid (RBox w2 w.heap.size { r with fu:=wrap64 (S.fu - 1) }):=by show RBox _ _ _; rw [← hw2]; exact X1.out.set_fu _
  have Y2 : Hid (RBox w2 (w.heap.size + 1) rn0):=by show RBox _ _ _; rw [← hw2]; exact Y1.out.away (by omega)
  have B2 : Hid (Below w.heap.size w w2):=by show Below _ _ _; rw [← hw2]; exact B1.out.setCell (p:=⟨w.heap.size,26,none⟩) (Nat.le_refl _) _
  have R2:=zqh (step_in H0.out B2.out Y2.out.lt (wrap64 (S.fu - 1)) HW.out);clear hw2 p26 f26 X1 Y1 B1;(go_wp2_with (first | (refine wpList_rload (by rfl) _ rfl w.heap.size _ rfl X2.out ?_)));refine (N0.out (fun g => X g ∨ g = w.heap.size ∨ g = w.heap.size + 1) _ w2 R2.out).mono ?_;rintro e w3 ⟨j1,rfl,R3,bb⟩;have X3:=zqh (X2.out.keep bb);have Y3:=zqh (Y2.out.keep bb);have B3:=zqh (B2.out.trans (bb.mono B2.out.size));have Q3:=zqh R3;clear X2 Y2 B2 R2 bb R3;go_upto_region 5 with (first | (refine wpList_rstore (by rfl) _ _ rfl w.heap.size _ j1 rfl rfl X3.out ?_))
  generalize hw4 : World.setRow _ _ _ = w4;have X4 : Hid (RBox w4 w.heap.size j1):=by show RBox _ _ _; rw [← hw4]; exact rrow X3.out _
  have Y4 : Hid (RBox w4 (w.heap.size + 1) rn0):=by show RBox _ _ _; rw [← hw4]; exact Y3.out.away_row (by omega) _
  have B4 : Hid (Below w.heap.size w w4):=by show Below _ _ _; rw [← hw4]; exact below_setRow B3.out (Nat.le_refl _) _
  have R4 : Hid (RIs w4 j1 { S1 with X:=fun g => X g ∨ g = w.heap.size ∨ g = w.heap.size + 1 }):=by show RIs _ _ _; rw [← hw4]; exact Q3.out.across X3.out (.inr (.inl rfl))
  have G4 : Hid (Glob S1.a w4):=by show Glob _ _; rw [A0.out]; exact G0.out.keep B4.out
  clear hw4 X3 Y3 B3 Q3;(go_wp2_with (first | (refine wpList_rload (by rfl) _ rfl w.heap.size _ rfl X4.out ?_)));refine (done_err (D0.out (fun g => X g ∨ g = w.heap.size ∨ g = w.heap.size + 1)) j1 w4 G4.out R4.out).mono ?_;rintro e w5 ⟨j2,rfl,R5,bb⟩;have X5:=zqh (X4.out.keep bb);have Y5:=zqh (Y4.out.keep bb);have B5:=zqh (B4.out.trans (bb.mono B4.out.size));have Q5:=zqh R5;clear X4 Y4 B4 R4 G4 bb R5;go_upto_region 7 with (first | (refine wpList_rstore (by rfl) _ _ rfl w.heap.size _ j2 rfl rfl X5.out ?_))
  generalize hw6 : World.setRow _ _ _ = w6;have X6 : Hid (RBox w6 w.heap.size j2):=by show RBox _ _ _; rw [← hw6]; exact rrow X5.out _
  have Y6 : Hid (RBox w6 (w.heap.size + 1) rn0):=by show RBox _ _ _; rw [← hw6]; exact Y5.out.away_row (by omega) _
  have B6 : Hid (Below w.heap.size w w6):=by show Below _ _ _; rw [← hw6]; exact below_setRow B5.out (Nat.le_refl _) _
  have R6 : Hid (RIs w6 j2 { S1 with X:=fun g => X g ∨ g = w.heap.size ∨ g = w.heap.size + 1 }):=by show RIs _ _ _; rw [← hw6]; exact Q5.out.across X5.out (.inr (.inl rfl))
  have G6:=zqh (G0.out.keep B6.out);have PG:=G6.out.h;clear hw6 X5 Y5 B5 Q5;(go_wp2_with fail);refine (is_code _ _ _ _).mono ?_;rintro e w7 ⟨rfl,bb⟩;have X7:=zqh (X6.out.keep bb);have Y7:=zqh (Y6.out.keep bb);have B7:=zqh (B6.out.trans (bb.mono B6.out.size));have R7:=zqh (R6.out.keep bb);have G7:=zqh (G6.out.keep bb);clear X6 Y6 B6 R6 G6 PG bb;go_upto_region 11 with fail
  refine wp_region_held_drew (S:=fun a => RBox a w.heap.size j2 ∧ (∃ j0,RBox a (w.heap.size + 1) j0) ∧ Below w.heap.size w a) (by kernel_rfl) ?_ (fun hHeld => ?_)
  · exact ⟨X7.out,⟨_,Y7.out⟩,B7.out.drew⟩
  have R7:=zqh (R7.out.keep (drew_bel8 _));have G7:=zqh (G7.out.keep (drew_bel8 _));clear X7 Y7 B7;refine zqt (i:=0) (v:=rnV j2) ?y0 ?r0
  case y0 => exact fun u hSu => exec_rl _ rfl w.heap.size j2 rfl hSu.1
  (try simp only [zq,Act.put]);refine zqa 1 ?_;refine zqr 2 fun K hK => ?_
  go_simp;refine (codeOf_any _ _ _ G7.out.t).mono ?_;rintro e w8 ⟨rfl,bb⟩;have R8:=zqh (R7.out.keep bb);obtain ⟨j0,hz⟩:=hHeld.2.1;have hN : RBox w8 w.heap.size j2 ∧ (∃ j0,RBox w8 (w.heap.size + 1) j0) ∧ Below w.heap.size w w8:=⟨hHeld.1.keep bb,⟨j0,hz.keep bb⟩,below_then hHeld.2.2 bb⟩;(go_wp2_with fail);clear hHeld bb hz R7 G7;refine hK.out _ _ hN (fun hHeld => ?_);clear hK K hN;(try simp only [zq,Act.put]);refine zqr 3 fun K hK => ?_
  go_simp;refine (handed_none ({ S1 with X:=fun g => X g ∨ g = w.heap.size ∨ g = w.heap.size + 1 }) c E0.out j2 _ R8.out).mono ?_;rintro e w9 ⟨j3,rfl,R9,bb⟩;have Q9:=zqh R9;obtain ⟨j0,hz⟩:=hHeld.2.1;have hN : RBox w9 w.heap.size j2 ∧ (∃ j0,RBox w9 (w.heap.size + 1) j0) ∧ Below w.heap.size w w9:=⟨hHeld.1.keep bb,⟨j0,hz.keep bb⟩,below_then hHeld.2.2 bb⟩;(go_wp2_with fail);clear hHeld bb hz R8 R9;refine hK.out _ _ hN (fun hHeld => ?_);clear hK K hN;(try simp only [zq,Act.put]);refine zqa 4 ?_;refine zqa 5 ?_;refine zqa 6 ?_;refine zqr 7 fun K hK => ?_
  obtain ⟨j0,hz⟩:=hHeld.2.1;refine step_rst rfl _ _ rfl (w.heap.size + 1) j0 j3 rfl rfl hz ?_;have bz:=zqh (below_setRow hHeld.2.2 (show w.heap.size ≤ w.heap.size + 1 by omega) (rnC j3));have hr2:=zqh (rrow hz j3);have R10:=zqh (RIs.less (S:={ S1 with wv:=0,d:=false }) (X:=X) (X':=fun g => X g ∨ g = w.heap.size ∨ g = w.heap.size + 1) (Q9.out.across (r1:=j3) hz (.inr (.inr rfl))) fun g q => Or.inl q);refine hK.out _ _ ⟨hHeld.1.away_row (by omega) _,⟨j3,hr2.out⟩,bz.out⟩ (fun hHeld2 => ?_);clear hK K hHeld hz Q9;(try simp only [zq,Act.put]);refine zqa 8 ?_;refine zqa 9 ?_;refine wpAnyH_done (by kernel_rfl) ?_ _;(go_wp2_with fail);exact bodyPost_ret (res_rtu rfl _ _ _ _ rfl hr2.out) rfl ⟨j3,rfl,R10.out,bz.out⟩
end Go.Proofs.YtcmldhjicjmmgaaGreatDoor
