/- Part 46. -/
import Derived.Test.YtcmldhjicjmmgaaGreatDoorXlBN
import Derived.Test.YtcmldhjicjmmgaaGreatDoorXlBS
import Derived.Test.YtcmldhjicjmmgaaGreatDoorTie
import Derived.Test.YtcmldhjicjmmgaaGreatDoorCards
import Derived.SevenTiedAt
set_option linter.unusedVariables false
set_option linter.unusedSimpArgs false
set_option maxRecDepth 100000
set_option maxHeartbeats 4000000

namespace Go.Proofs.YtcmldhjicjmmgaaGreatDoor
open Go.RowKit


theorem states_any (a : Addr) (s : Int) (many bare k z : Nat) (w : World) (g : Glob a w) (hk : (many : Int) % 9 = (k : Int)) (hz : (bare : Int) % 9 = (z : Int)) (hk9 : k < 9) (hz9 : z < 9) (hm9 : many ≤ 255) (hb9 : bare ≤ 255) (HS9 : Hid (cellR s)) {N : Nat} {D : List Int} {ip fu c : Int} (HR : Hid (Runs N (stKW freK a (stM s (k : Int) z k) [] [] 16 1368 20) (stK freK a (stM s (k : Int) z k) D [] ip fu) c)) (HC : Hid ((c = -24 ∧ D = [] ∧ fu = 19 ∧ (s < 0 ∨ (¬ s < 0 ∧ (k : Int) ≤ s))) ∨ (∃ i9 : Nat,s = (i9 : Int) ∧ i9 < k ∧ i9 = z ∧ c = 0 ∧ D = [] ∧ fu = 18) ∨ (∃ i9 : Nat,s = (i9 : Int) ∧ i9 < k ∧ i9 ≠ z ∧ c = 0 ∧ D = [sV i9] ∧ fu = 17))) : Calls Tryz.prog 6 #[.int .i64 s,.int .u8 (many : Int),.int .u8 (bare : Int)] w fun e w' => e = .returned (.bool true) ∧ Below w.heap.size w w':=by
  have G0:=zqh (g);have B0:=zqh (Below.refl w.heap.size w);clear g;go_enter Tryz.func6,Tryz.ntmps6;(go_wp2_with fail);refine (shown_inn a _ G0.out).mono ?_;rintro e w1 ⟨rfl,bb⟩;have G1:=zqh (G0.out.keep bb);have B1:=zqh (below_then B0.out bb);clear G0 B0;clear bb;(go_wp2_with fail);refine (fresh_any _).mono ?_;rintro e w2 ⟨km,rfl,hv,hs,bb⟩;have G2:=zqh (G1.out.keep bb);have B2:=zqh (below_then B1.out bb);clear G1 B1;have V2:=zqh (hv);have S0:=zqh hs;clear bb hv hs;have FX:=zqh (free_of V2.out (Nat.le_refl w2.heap.size));have LX : Hid (3 ≤ w2.heap.size):=G2.out.lo;have NX : Hid (w.heap.size ≤ w2.heap.size):=B2.out.size;go_upto_region 4 with (refine wpList_vstore (by rfl) _ _ rfl _ vm0 (km) rfl rfl (vbox_zero _) ?_)
  generalize hw : World.setRow _ _ _ = w3;have bb : Below w2.heap.size w2 w3:=by rw [← hw]; exact below_setRow (al_one _ _) (Nat.le_refl _) _
  have hx : VBox w3 w2.heap.size (km):=by rw [← hw]; exact vrow (vbox_zero _) _
  clear hw;have G3:=zqh (G2.out.keep bb);have V3:=zqh (V2.out.keep bb);have B3:=zqh (below_then B2.out bb);clear G2 V2 B2;have X3:=zqh (hx);clear bb hx;have EN:=enters_of Tryz.func15 (by kernel_rfl) rfl;(go_wp2_with (first | (refine wpList_vload (by rfl) _ rfl (w2.heap.size) (km) rfl X3.out ?_)));refine (put_states (L:=stL9 (B0) [] []) 1368 260 _ X3.out V3.out FX.out G3.out LX.out (by show B0.1.length ≤ _; rw [new_b0.l]; decide) (by decide)).mono ?_;rintro e w4 ⟨j4,rfl,hx,hv,hs,hf,hg,bb,hz⟩;have X4:=zqh hx;have V4 : Hid (IsVm w4 j4 (stL9 (storeF B0 1368 260) [] [])):=hv;have G4:=zqh hg;have S4:=zqh (hs.trans S0.out);have B4:=zqh (B3.out.trans (bb.mono NX.out));clear FX X3 V3 G3 B3 S0;have FX:=zqh hf;clear hx hv hs hf hg bb hz;(go_wp2_with (first | (refine wpList_vload (by rfl) _ rfl (w2.heap.size) (j4) rfl X4.out ?_)));refine (put_states (L:=stL9 (storeF B0 1368 260) [] []) 1384 s _ X4.out V4.out FX.out G4.out LX.out (by show (storeF B0 1368 260).1.length ≤ _; rw [store_len9I,new_b0.l]; decide) (by show (storeF B0 1368 260).2.length < _; have:=store_pats B0 1368 260; have h : B0.2.length = 0:=rfl; omega)).mono ?_;rintro e w5 ⟨j5,rfl,hx,hv,hs,hf,hg,bb,hz⟩;have X5:=zqh hx;have V5 : Hid (IsVm w5 j5 (stL9 (storeF (storeF B0 1368 260) 1384 s) [] [])):=hv;have G5:=zqh hg;have S5:=zqh (hs.trans S4.out);have B5:=zqh (B4.out.trans (bb.mono NX.out));clear FX X4 V4 G4 B4 S4;have FX:=zqh hf;clear hx hv hs hf hg bb hz;(go_wp2_with (first | (refine wpList_vload (by rfl) _ rfl (w2.heap.size) (j5) rfl X5.out ?_)))
  refine (put_states (L:=stL9 (storeF (storeF B0 1368 260) 1384 s) [] []) 1392 (k : Int) _ X5.out V5.out FX.out G5.out LX.out (by show (storeF (storeF B0 1368 260) 1384 s).1.length ≤ _; rw [store_len9I,store_len9I,new_b0.l]; decide) (by show (storeF (storeF B0 1368 260) 1384 s).2.length < _; have:=store_pats B0 1368 260; have:=store_pats (storeF B0 1368 260) 1384 s; have h : B0.2.length = 0:=rfl; omega)).mono ?_;rintro e w6 ⟨j6,rfl,hx,hv,hs,hf,hg,bb,hz⟩;have X6:=zqh hx;have V6 : Hid (IsVm w6 j6 (stL9 (stM s (k : Int) z 0) [] [])):=hv;have G6:=zqh hg;have S6:=zqh (hs.trans S5.out);have B6:=zqh (B5.out.trans (bb.mono NX.out));clear FX X5 V5 G5 B5 S5;have FX:=zqh hf;clear hx hv hs hf hg bb hz;go_upto_region 10 with fail
  obtain ⟨r1,b1⟩:=rows_at w6 (w2.heap.size) X6.out.lt;generalize hw : World.alloc (World.alloc (World.alloc (World.alloc (World.alloc (World.alloc (World.alloc (World.alloc (World.alloc (World.alloc (World.alloc _ _) _) _) _) _) _) _) _) _) _) _ = w8;have hr : RowsAt (w2.heap.size) (w6.heap.size) (w6.heap.size + 1 + 1 + 1 + 1 + 1 + 1 + 1 + 1 + 1 + 1) w8:=by rw [← hw]; exact r1
  have bb : Below w6.heap.size w6 w8:=by rw [← hw]; exact b1
  have I0 : Hid (StAt a s (k : Int) z 0 (w2.heap.size) (w6.heap.size) (w6.heap.size + 1 + 1 + 1 + 1 + 1 + 1 + 1 + 1 + 1 + 1) w w8 j6):=⟨X6.out.keep bb,V6.out.keep bb,S6.out,FX.out,G6.out.keep bb,below_then B6.out bb,hr⟩;clear r1 b1 hw hr bb X6 V6 G6 B6 S6 FX;(go_wp2_with fail)
  go_loopw [13] (fun s13 wr => ∃ (i : Nat) (j : VmK),s13 = .int .i64 (i : Int) ∧ i ≤ k ∧ Hid (StAt a s (k : Int) z i (w2.heap.size) (w6.heap.size) (w6.heap.size + 1 + 1 + 1 + 1 + 1 + 1 + 1 + 1 + 1 + 1) w wr j)) (fun s13 _ => k - (intOf s13).toNat)
  case atStart => exact ⟨0,_,rfl,Nat.zero_le _,I0⟩
  case round =>
    obtain ⟨i,j,rfl,hi,hI⟩:=hrel;clear I0
    by_cases hik : i < k
    · by_cases hzi : i = z
      · have g0 : ((i : Int) != (z : Int)) = false:=by simp [hzi]
        (go_wp2_with fail)
        go_roundw
        case rel => exact ⟨i + 1,j,by (try simp) <;> (try omega),by omega,zqh (hI.out.skip hzi)⟩
        case measure => simp [intOf]; omega
      · have g0 : ((i : Int) != (z : Int)) = true:=by simp; omega
        have cN:=hI.out.rows.n i (by omega);have lN:=stN_lt i (by omega);(go_wp2_with fail);refine (xt_any (stN.getD i 0) lN.2 (sN i) (sN_is i (by omega)) _).mono ?_;rintro e w9 ⟨rfl,bb⟩;have hJ:=zqh (hI.out.keep bb);clear bb cN lN;(go_wp2_with fail);have mm:=mach_of (s:=s) (k:=(k : Int)) HS9.out (by unfold cellR; omega) z i (by omega);refine (put_states (L:=stL9 (stM s (k : Int) z i) [] []) (1400 + 8 * (i : Int)) (sxW i) _ hJ.out.box hJ.out.vm hJ.out.fr hJ.out.gl LX.out (by show (stM s (k : Int) z i).1.length ≤ _; rw [mm.n.l]; decide) (by show (stM s (k : Int) z i).2.length < _; have:=mm.p; omega)).mono ?_;rintro e w10 ⟨j',rfl,hx,hv,hs,hf,hg,bb,he⟩;have hK:=zqh (hJ.out.puts hzi NX.out hx hv hs hf hg bb he);clear mm hx hv hs hf hg bb he hJ;(go_wp2_with fail)
        go_roundw
        case rel => exact ⟨i + 1,j',by simp,by omega,hK⟩
        case measure => simp [intOf]; omega
    · have ek : i = k:=by omega
      have hE:=hI;rw [ek] at hE;clear hI hik;have XE:=zqh hE.out.box;(go_wp2_with (refine wpList_vload (by rfl) _ rfl (w2.heap.size) j rfl XE.out ?_));refine (run_stK HR.out _ (by decide) hE.out.vm hE.out.sc hE.out.gl).mono ?_;rintro e w11 ⟨mx,rfl,hv,hs,bb⟩;have B11:=zqh (below_then hE.out.bel bb);have R11:=zqh (hE.out.rows.keep bb);have V11:=zqh hv;clear hv hs bb hE XE;go_upto_region 16 with (refine wpList_vstore (by rfl) _ _ rfl _ vm0 mx rfl rfl (vbox_zero _) ?_)
      generalize hw : World.setRow _ _ _ = w12;have bb : Below w11.heap.size w11 w12:=by rw [← hw]; exact below_setRow (al_one _ _) (Nat.le_refl _) _
      have hx : VBox w12 w11.heap.size mx:=by rw [← hw]; exact vrow (vbox_zero _) _
      have B12:=zqh (below_then B11.out bb);have R12:=zqh (R11.out.keep bb);have V12:=zqh (V11.out.keep bb);have X12:=zqh hx;clear hw bb hx B11 R11 V11;have hd:=V12.out.d.1;have z1:=X12.out.c8
      rcases HC.out with ⟨rfl,rfl,rfl,hb⟩ | ⟨i9,rfl,h1,h2,rfl,rfl,rfl⟩ | ⟨i9,rfl,h1,h2,rfl,rfl,rfl⟩
      · have e0 : mx.dn = 0:=hd.symm
        rw [e0] at z1;clear hd e0
        rcases hb with hb | ⟨hb,hb2⟩
        · have g0 : decide (s < 0) = true:=by simpa using hb
          (go_wp2_with fail);go_ret;exact ⟨rfl,B12.out⟩
        · have g0 : decide (s < 0) = false:=by simpa using hb
          have g1 : decide ((k : Int) ≤ s) = true:=by simpa using hb2
          (go_wp2_with fail);go_ret;exact ⟨rfl,B12.out⟩
      · have e0 : mx.dn = 0:=hd.symm
        rw [e0] at z1;clear hd e0;have g0 : decide ((i9 : Int) < 0) = false:=by simp
        have g1 : decide ((k : Int) ≤ (i9 : Int)) = false:=by simp; omega
        have g2 : ((i9 : Int) == (z : Int)) = true:=by simp; omega
        (go_wp2_with fail);go_ret;exact ⟨rfl,B12.out⟩
      · clear hd
        have g0 : decide ((i9 : Int) < 0) = false:=by simp
        have g1 : decide ((k : Int) ≤ (i9 : Int)) = false:=by simp; omega
        have g2 : ((i9 : Int) == (z : Int)) = false:=by simp; omega
        obtain ⟨bw,q1,q2,q3,q4⟩:=R12.out.t i9 (by omega);have h9 : i9 < 9:=by omega
        have L11:=zqh X12.out.lt;have LW9:=zqh R12.out.hW.2;have VR:=zqh V12.out.d;have VW : Hid (Row w12 (some ⟨bw,0,none⟩) 1 1 [sV i9]):=zqh (row_cell1 q4);go_upto_region 20 with fail
        refine wp_region_held_drew (S:=fun u => u.cell? ⟨w11.heap.size,8,none⟩ = some (.slice mx.dA mx.dn mx.dc) ∧ u.cell? ⟨w6.heap.size + 1 + 1 + 1 + 1 + 1 + 1 + 1 + 1 + 1 + 1,i9,none⟩ = some (.slice (some ⟨bw,0,none⟩) 1 1) ∧ Below w.heap.size w u ∧ Below w12.heap.size w12 u) (by kernel_rfl) ?_ (fun hHeld => ?_)
        · exact ⟨z1,q3,B12.out.drew,drew_bel8 _⟩
        clear z1 q3 q4 X12 B12 R12 V12;refine zqt (i:=0) (v:=?v0) ?y0 ?r0
        case y0 => (intro u hSw; (try dsimp only at hSw); obtain ⟨q8,q9,_,_⟩:=hSw; go_simp; (try with_reducible rfl))
        (try simp only [zq,Act.put]);refine zqt (i:=1) (v:=?v1) ?y1 ?r1
        case y1 => (intro u hSw; (try dsimp only at hSw); obtain ⟨q8,q9,_,_⟩:=hSw; go_simp; (try with_reducible rfl))
        (try simp only [zq,Act.put]);refine zqt (i:=2) (v:=?v2) ?y2 ?r2
        case y2 => (intro u hSw; (try dsimp only at hSw); obtain ⟨q8,q9,_,_⟩:=hSw; go_simp; (try with_reducible rfl))
        (try simp only [zq,Act.put]);refine zqt (i:=3) (v:=?v3) ?y3 ?r3
        case y3 => (intro u hSw; (try dsimp only at hSw); obtain ⟨q8,q9,_,_⟩:=hSw; go_simp; (try with_reducible rfl))
        (try simp only [zq,Act.put]);refine zqt (i:=4) (v:=?v4) ?y4 ?r4
        case y4 => (intro u hSw; (try dsimp only at hSw); obtain ⟨q8,q9,_,_⟩:=hSw; go_simp; (try with_reducible rfl))
        (try simp only [zq,Act.put]);refine zqt (i:=5) (v:=?v5) ?y5 ?r5
        case y5 => (intro u hSw; (try dsimp only at hSw); obtain ⟨q8,q9,_,_⟩:=hSw; go_simp; (try with_reducible rfl))
        (try simp only [zq,Act.put]);refine zqt (i:=6) (v:=?v6) ?y6 ?r6
        case y6 => (intro u hSw; (try dsimp only at hSw); obtain ⟨q8,q9,_,_⟩:=hSw; go_simp; (try with_reducible rfl))
        (try simp only [zq,Act.put]);refine zqt (i:=7) (v:=?v7) ?y7 ?r7
        case y7 => (intro u hSw; (try dsimp only at hSw); obtain ⟨q8,q9,_,_⟩:=hSw; go_simp; (try with_reducible rfl))
        (try simp only [zq,Act.put]);refine zqt (i:=8) (v:=?v8) ?y8 ?r8
        case y8 => (intro u hSw; (try dsimp only at hSw); obtain ⟨q8,q9,_,_⟩:=hSw; go_simp; (try with_reducible rfl))
        (try simp only [zq,Act.put]);refine zqt (i:=9) (v:=?v9) ?y9 ?r9
        case y9 => (intro u hSw; (try dsimp only at hSw); obtain ⟨q8,q9,_,_⟩:=hSw; go_simp; (try with_reducible rfl))
        (try simp only [zq,Act.put]);refine zqt (i:=10) (v:=?v10) ?y10 ?r10
        case y10 => (intro u hSw; (try dsimp only at hSw); obtain ⟨q8,q9,_,_⟩:=hSw; go_simp; rw [if_pos (show (i9 : Int) < 9 by omega)])
        (try simp only [zq,Act.put]);refine zqt (i:=11) (v:=?v11) ?y11 ?r11
        case y11 => (intro u hSw; (try dsimp only at hSw); obtain ⟨q8,q9,_,_⟩:=hSw; go_simp; (try with_reducible rfl))
        (try simp only [zq,Act.put]);refine zqr 12 fun K hK => ?_
        go_simp;refine (same_ll _ _ _ _ _ _ [sV i9] _ (VR.out.keep hHeld.2.2.2) (VW.out.keep hHeld.2.2.2) (by simp)).mono ?_;rintro e w13 ⟨rfl,bb⟩;have hN : w13.cell? ⟨w11.heap.size,8,none⟩ = some (.slice mx.dA mx.dn mx.dc) ∧ w13.cell? ⟨w6.heap.size + 1 + 1 + 1 + 1 + 1 + 1 + 1 + 1 + 1 + 1,i9,none⟩ = some (.slice (some ⟨bw,0,none⟩) 1 1) ∧ Below w.heap.size w w13 ∧ Below w12.heap.size w12 w13:=⟨(bb.cell (p:=⟨w11.heap.size,8,none⟩) (Nat.lt_of_lt_of_le L11.out hHeld.2.2.2.size)).trans hHeld.1,(bb.cell (p:=⟨w6.heap.size + 1 + 1 + 1 + 1 + 1 + 1 + 1 + 1 + 1 + 1,i9,none⟩) (Nat.lt_of_lt_of_le LW9.out hHeld.2.2.2.size)).trans hHeld.2.1,below_then hHeld.2.2.1 bb,below_then hHeld.2.2.2 bb⟩;(go_wp2_with fail);clear hHeld bb;refine hK.out _ _ hN (fun hHeld => ?_);clear hK K hN;(try simp only [zq,Act.put]);refine zqt (i:=13) (v:=?v13) ?y13 ?r13
        case y13 => (intro u hSw; (try dsimp only at hSw); obtain ⟨q8,q9,_,_⟩:=hSw; go_simp; (try with_reducible rfl))
        (try simp only [zq,Act.put]);refine zqt (i:=14) (v:=?v14) ?y14 ?r14
        case y14 => (intro u hSw; (try dsimp only at hSw); obtain ⟨q8,q9,_,_⟩:=hSw; go_simp; (try with_reducible rfl))
        (try simp only [zq,Act.put]);refine zqt (i:=15) (v:=?v15) ?y15 ?r15
        case y15 => (intro u hSw; (try dsimp only at hSw); obtain ⟨q8,q9,_,_⟩:=hSw; go_simp; (try with_reducible rfl))
        (try simp only [zq,Act.put]);refine zqt (i:=16) (v:=?v16) ?y16 ?r16
        case y16 => (intro u hSw; (try dsimp only at hSw); obtain ⟨q8,q9,_,_⟩:=hSw; go_simp; (try with_reducible rfl))
        (try simp only [zq,Act.put]);refine zqt (i:=17) (v:=?v17) ?y17 ?r17
        case y17 => (intro u hSw; (try dsimp only at hSw); obtain ⟨q8,q9,_,_⟩:=hSw; go_simp; (try with_reducible rfl))
        (try simp only [zq,Act.put]);refine zqt (i:=18) (v:=?v18) ?y18 ?r18
        case y18 => (intro u hSw; (try dsimp only at hSw); obtain ⟨q8,q9,_,_⟩:=hSw; go_simp; (try with_reducible rfl))
        (try simp only [zq,Act.put]);refine wpAnyH_done (by kernel_rfl) ?_ _;(go_wp2_with fail);go_ret;exact ⟨rfl,hHeld.2.2.1⟩


theorem states_all (a : Addr) (s m b : Int) (w : World) (g : Glob a w) (h0 : (Lit.int .i64 s).wf = true) (h1 : (Lit.int .u8 m).wf = true) (h2 : (Lit.int .u8 b).wf = true) : Calls Tryz.prog 6 #[.int .i64 s,.int .u8 m,.int .u8 b] w fun e w' => e = .returned (.bool true) ∧ Below w.heap.size w w':=by
  have q0:=wf_i64 h0;have q1:=wf_u8 h1;have q2:=wf_u8 h2;have hs : cellR s:=by unfold cellR; omega
  have e1 : m = ((m.toNat : Nat) : Int):=by omega
  have e2 : b = ((b.toNat : Nat) : Int):=by omega
  rw [e1,e2];have hk : cellR ((m.toNat % 9 : Nat) : Int):=by unfold cellR; omega
  have mk:=mach_of (s:=s) (k:=((m.toNat % 9 : Nat) : Int)) hs hk (b.toNat % 9) (m.toNat % 9) (by omega);have go:=fun {N : Nat} {D : List Int} {ip fu c : Int} => states_any (N:=N) (D:=D) (ip:=ip) (fu:=fu) (c:=c) a s m.toNat b.toNat (m.toNat % 9) (b.toNat % 9) w g (by omega) (by omega) (Nat.mod_lt _ (by decide)) (Nat.mod_lt _ (by decide)) (by omega) (by omega) (zqh hs)
  by_cases c1 : s < 0
  · exact go (zqh (mach_bad a mk (.inl c1))) (zqh (.inl ⟨rfl,rfl,rfl,.inl c1⟩))
  by_cases c2 : ((m.toNat % 9 : Nat) : Int) ≤ s
  · exact go (zqh (mach_bad a mk (.inr ⟨c1,c2⟩))) (zqh (.inl ⟨rfl,rfl,rfl,.inr ⟨c1,c2⟩⟩))
  obtain ⟨j,rfl⟩ : ∃ j : Nat,s = (j : Int):=⟨s.toNat,by omega⟩;have hj : j < m.toNat % 9:=by omega
  have h9 : j < 9:=by omega
  by_cases c3 : j = b.toNat % 9
  · exact go (zqh (mach_none a mk h9 (by omega) (.inr c3))) (zqh (.inr (.inl ⟨j,rfl,hj,c3,rfl,rfl,rfl⟩)))
  · have HR:=mach_goes a mk h9 (by omega) hj c3 (by omega)
    rw [stD_is j h9] at HR;exact go (zqh HR) (zqh (.inr (.inr ⟨j,rfl,hj,c3,rfl,rfl,rfl⟩)))
end Go.Proofs.YtcmldhjicjmmgaaGreatDoor

namespace Go.Proofs.YtcmldhjicjmmgaaGreatDoor.innerStates
open Go.ChangeShapes Go.WideShapes Go.ChangeAt Go.RowKit Go.Joins Go.Deep


theorem own : ownKnob Tryz.prog.godebug = none:=by kernel_rfl
theorem lifted (os : Os) (started : os.Started) (H : Type) (enc : TypeId × Value → H) :
    ReturnsInHanded {} Tryz.checked os 6 .any (fun w args => (Rows.innerStatesSpec.pre enc Tryz.prog Tryz.f6 [] false w args ∧ laidMetH Tryz.prog laidL w) ∧ sizedMet enc Tryz.prog Tryz.f6 (OpenSpec.ofChange Rows.innerStatesSpec) false w args) (Rows.innerStatesSpec.post enc Tryz.prog Tryz.f6 false true false false):=by
  refine returnsInHanded_of_change_and (C:=Tryz.checked) (X:=fun w _ => laidMetH Tryz.prog laidL w) (fun _ _ _ hh h => h.of_heap hh) own started (by kernel_rfl) Tryz.func6
    (ChangeSpec.witness_shaped (enc:=enc) (C:=Tryz.checked) (os:=os) (X:=fun w _ => laidMetH Tryz.prog laidL w) false (World.doorLaid Tryz.prog 2000 os) #[.int .i64 0,.int .u8 0,.int .u8 0] 8 rfl (World.shaped_of_RefB (by kernel_rfl) (by kernel_rfl)) (by kernel_rfl) (by kernel_rfl) (by kernel_rfl) (door_met os _)) ?_
  intro W base args ds gs before hval0 hW _ _ hL _;have hval : ∀ (j : Nat) t v,Tryz.f6.params[j]? = some t → args[j]? = some v → Value.okWide Tryz.prog W .any base t v:=hval0;have hW':=hW;obtain ⟨a9,hG⟩:=glob_of hL;obtain ⟨p,q,hA0,hV,rfl,hfz,hnd⟩:=hW;have hA : DataW.TrodAll enc Tryz.prog W 0 (fun _ => true) true Tryz.f6.params.toList args.toList ds p:=hA0;rw [Tryz.params6] at hA hval;obtain ⟨v0,vs0,d0,ds0,p0,q0,hargs,rfl,rfl,h0,r0⟩:=trodAll_cons hA;obtain ⟨v1,vs1,d1,ds1,p1,q1,rfl,rfl,rfl,h1,r1⟩:=trodAll_cons r0;obtain ⟨v2,vs2,d2,ds2,p2,q2,rfl,rfl,rfl,h2,r2⟩:=trodAll_cons r1;obtain ⟨rfl,rfl,rfl⟩:=trodAll_nil r2;obtain rfl : args = #[v0,v1,v2]:=by cases args; simp_all
  obtain ⟨rfl,rfl⟩:=trodVars_none hV;obtain ⟨a0,rfl,rfl,rfl,w0⟩:=open_int Tryz.underlying3 (hval 0 3 v0 rfl rfl) h0;obtain ⟨a1,rfl,rfl,rfl,w1⟩:=open_int Tryz.underlying5 (hval 1 5 v1 rfl rfl) h1;obtain ⟨a2,rfl,rfl,rfl,w2⟩:=open_int Tryz.underlying5 (hval 2 5 v2 rfl rfl) h2;clear hA0 hval0 hL;refine (states_all a9 a0 a1 a2 W hG w0 w1 w2).mono fun e W' ⟨he,bel⟩ => ?_
  subst he;exact ⟨_,rfl,_,_,_,[],_,[],hW',trodAll_mk1 (shut_bool Tryz.underlying4 _),(trodAll_cons_mk (shut_int Tryz.underlying3 w0) (trodAll_cons_mk (shut_int Tryz.underlying5 w1) (trodAll_cons_mk (shut_int Tryz.underlying5 w2) trodAll_mk0))),rfl,bel.frame _,fun h => by cases h⟩
open Go.RowKit


theorem closed9 : joinedFacts Tryz.prog 6 Tryz.f6 Rows.innerStatesSpec Rows.innerStatesRow = true:=by kernel_rfl
theorem func9 : Tryz.prog.funcNamed Rows.innerStatesRow.func = some 6:=by kernel_rfl
theorem plain (f : FuncId) (fn : Func) (hf : Tryz.pinned.checked.prog.funcNamed "detent/detentlaw12.InnerStates" = some f) (hfn : Tryz.pinned.checked.prog.funcs[f]? = some fn) : true = Tryz.pinned.checked.prog.looks [] ∧ ∀ (j : Nat) t, fn.params[j]? = some t → Tryz.pinned.checked.prog.wantsStandIn t = false := by
  obtain rfl : f = 6 := (Option.some.inj ((show Tryz.prog.funcNamed "detent/detentlaw12.InnerStates" = some 6 by kernel_rfl).symm.trans hf)).symm;obtain rfl : fn = Tryz.f6 := (Option.some.inj (Tryz.func6.symm.trans hfn)).symm;refine ⟨by kernel_rfl, fun j t ht => ?_⟩;rw [Tryz.params6] at ht;have hm : t ∈ [3, 5, 5] := by simpa using Array.mem_of_getElem? ht
  have hall : ([3,5,5].all fun u => !Tryz.prog.wantsStandIn u) = true:=by kernel_rfl
  exact (show Tryz.prog.wantsStandIn t = false by simpa using List.all_eq_true.1 hall t hm)
end Go.Proofs.YtcmldhjicjmmgaaGreatDoor.innerStates
